
/-
  ElasticBounds: how often a key came lies between both numbers. No condition.
-/
import Derived.Test.YtihealembikkiaaRows
import Derived.Test.YtihealembikkiaaElM5
import Derived.Test.YtihealembikkiaaElOpen
import Derived.Test.YtihealembikkiaaBlmOpen
import Derived.Test.YtihealembikkiaaElBounds
import Derived.WalkKit
import Derived.ProofKit
import Derived.OpenShut
import Derived.ShutString
import Derived.ChangeOld
import Derived.ChangeMaps5
import Derived.Below
import Derived.Carry
namespace Go.Proofs.Ytihealembikkiaa.elasticBounds
open Fm Bl Lt El L2 L10 L14 Go.Deep
open Go.ChangeShapes Go.WideShapes Go.ChangeAt Go.RowKit Go.ChangeMaps
set_option linter.unusedVariables false
set_option maxRecDepth 20000

theorem own : ownKnob Try.prog.godebug = none := by kernel_rfl

theorem walk (zv : Value) (Z : Szs) (lv : Value) (L : Lst) (s : ByteArray) (w : World) (hz : SizeIn w zv Z) (hl : StrsIn w lv L) (hs : s.size ≤ maxLen) : Calls Try.prog 5 #[zv, lv, .string s] w fun e w' => e = .returned (.bool true) ∧ Below w.heap.size w w' := by
  obtain ⟨S, n, room, votes, R, c⟩ := Z
  obtain ⟨rfl, uS, i1, i2, i3, i4, i5⟩ := hz
  obtain ⟨m, Q⟩ := L
  obtain ⟨h, hm, hq⟩ := hl
  simp only at *
  by_cases sh : shapeE n room votes R c = true
  · have sh2 := sh
    rw [shapeE_iff] at sh2
    obtain ⟨n, rfl⟩ : ∃ k : Nat, n = k := ⟨n.toNat, by omega⟩
    obtain ⟨room, rfl⟩ : ∃ k : Nat, room = k := ⟨room.toNat, by omega⟩
    obtain ⟨R, rfl⟩ : ∃ k : Nat, R = k := ⟨R.toNat, by omega⟩
    obtain ⟨c, rfl⟩ : ∃ k : Nat, c = k := ⟨c.toNat, by omega⟩
    by_cases hs9 : m ≤ 300 ∧ ∀ i, i < m → (Q i).size ≤ 100
    · exact bounds_in ctrE w S votes n room R c lv m Q s uS h hm hq sh hs9
    · exact bounds_long ctrE w S votes n room R c lv m Q s uS h hm hq sh hs9
  · exact bounds_out ctrE w S n room votes R c lv m Q s uS i1 i2 i3 i4 i5 h hm hq (by simpa using sh)

/-! ### The row -/
theorem laidOut : laidOutB Try.prog = true := by kernel_rfl
set_option maxRecDepth 100000 in
theorem lifted (os : Os) (started : os.Started) (H : Type) (enc : TypeId × Value → H) :
    ReturnsInHanded {} Try.checked os 5 .any (Rows.elasticBoundsSpec.pre6 enc Try.prog Try.f5 Rows.elasticBoundsRow.domain false) (Rows.elasticBoundsSpec.post enc Try.prog Try.f5 false true false false) := by
  refine returnsInHanded_of_change (C := Try.checked) own started (by kernel_rfl) Try.func5
    (ChangeSpec.witness6 (enc := enc) (C := Try.checked) false ⟨#[], #[.agg #[.int .u64 0, .int .i64 0, .int .i64 0, .int .i64 0, .int .i64 0, .int .i64 0], .slice none 0 0, .string ⟨#[]⟩], []⟩ 8 (by kernel_rfl) (by kernel_rfl) (by kernel_rfl) (by kernel_rfl)) ?_
  intro W base args ds gs before hval0 hW hcnd _
  have hval : ∀ (j : Nat) t v, Try.f5.params[j]? = some t → args[j]? = some v → Value.okWide Try.prog W .any base t v := hval0
  have hW' := hW
  obtain ⟨p, q, hA0, hV, rfl, hfz, hnd⟩ := hW
  have hA : DataW.TrodAll enc Try.prog W 0 (fun _ => true) true Try.f5.params.toList args.toList ds p := hA0
  rw [Try.params5] at hA hval
  obtain ⟨v0, vs0, d0, ds0, p0, q0, hargs, rfl, rfl, h0, r0⟩ := trodAll_cons hA
  obtain ⟨v1, vs1, d1, ds1, p1, q1, rfl, rfl, rfl, h1, r1⟩ := trodAll_cons r0
  obtain ⟨v2, vs2, d2, ds2, p2, q2, rfl, rfl, rfl, h2, r2⟩ := trodAll_cons r1
  obtain ⟨rfl, rfl, rfl⟩ := trodAll_nil r2
  obtain rfl : args = #[v0, v1, v2] := by cases args; simp_all
  obtain ⟨rfl, rfl⟩ := trodVars_none hV
  have k0 := h0
  have lt0 : ∀ x ∈ p0, x.block < W.heap.size := by obtain ⟨m, hm⟩ := k0; exact DataW.trod_lt m _ _ _ hm
  obtain ⟨F0, w0⟩ := open_size (hval 0 60 v0 rfl rfl) h0
  have k1 := h1
  have lt1 : ∀ x ∈ p1, x.block < W.heap.size := by obtain ⟨m, hm⟩ := k1; exact DataW.trod_lt m _ _ _ hm
  obtain ⟨F1, w1⟩ := open_keys (hval 1 61 v1 rfl rfl) h1
  obtain ⟨a2, rfl, rfl, rfl, w2⟩ := open_string Try.underlying9 (hval 2 9 v2 rfl rfl) h2
  clear hA0 hval0
  refine (walk v0 F0 v1 F1 a2 W w0 w1 w2).mono fun e W' ⟨he, bel⟩ => ?_
  subst he
  exact ⟨_, rfl, _, _, _, [], _, [], hW', trodAll_mk1 (shut_bool Try.underlying4 _), (trodAll_cons_mk (Below.trod laidOut (by kernel_rfl) (of_decide_eq_true (by kernel_rfl)) k0 bel lt0) (trodAll_cons_mk (Below.trod laidOut (by kernel_rfl) (of_decide_eq_true (by kernel_rfl)) k1 bel lt1) (trodAll_cons_mk (shut_string Try.underlying9 w2) trodAll_mk0))), rfl, bel.frame _, fun h => by cases h⟩

theorem over : Rows.elasticBoundsRow.holds Try.pinned (OpenSpec.ofChange Rows.elasticBoundsSpec) :=
  OpenClaim.holds_of_wide 5 Try.f5 rfl rfl rfl rfl rfl rfl rfl ⟨rfl, rfl, rfl, rfl, rfl⟩ rfl rfl rfl rfl rfl (by kernel_rfl) Try.func5 (by kernel_rfl)
    (of_decide_eq_true (by kernel_rfl)) (by unfold Func.isWrapper; first | (rw [if_pos (by decide +kernel)]; kernel_rfl) | (rw [if_neg (by decide +kernel)]; exact ⟨rfl, rfl⟩))
    (fun os started H enc _ => lifted os started H enc)

theorem proved : Rows.ElasticBoundsSaid := over
end Go.Proofs.Ytihealembikkiaa.elasticBounds
namespace Go.Proofs.Ytihealembikkiaa
theorem elasticBounds_holds : Rows.ElasticBoundsSaid := elasticBounds.proved
#print axioms elasticBounds_holds
end Go.Proofs.Ytihealembikkiaa
