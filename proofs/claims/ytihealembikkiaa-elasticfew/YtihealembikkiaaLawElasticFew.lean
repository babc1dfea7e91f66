
/-
  ElasticFew: while no bucket has more unlike keys than room each key is told as it came. No condition.
-/
import Derived.Test.YtihealembikkiaaRows
import Derived.Test.YtihealembikkiaaElM5
import Derived.Test.YtihealembikkiaaElOpen
import Derived.Test.YtihealembikkiaaBlmOpen
import Derived.Test.YtihealembikkiaaElFew
import Derived.WalkKit
import Derived.ProofKit
import Derived.OpenShut
import Derived.ShutString
import Derived.ChangeOld
import Derived.ChangeMaps5
import Derived.Below
import Derived.Carry
namespace Go.Proofs.Ytihealembikkiaa.elasticFew
open Fm Bl Lt El L2 L10 L14 Go.Deep
open Go.ChangeShapes Go.WideShapes Go.ChangeAt Go.RowKit Go.ChangeMaps
set_option linter.unusedVariables false
set_option maxRecDepth 20000

theorem own : ownKnob Try.prog.godebug = none := by kernel_rfl

theorem walk (zv : Value) (Z : Szs) (lv : Value) (L : Lst) (w : World) (hz : SizeIn w zv Z) (hl : StrsIn w lv L) : Calls Try.prog 7 #[zv, lv] w fun e w' => e = .returned (.bool true) ∧ Below w.heap.size w w' := by
  obtain ⟨S, n, room, votes, R, c⟩ := Z
  obtain ⟨rfl, uS, i1, i2, i3, i4, i5⟩ := hz
  obtain ⟨m, Q⟩ := L
  obtain ⟨h, hm, hq⟩ := hl
  simp only at *
  by_cases sh : shapeE n room votes R c = true
  · have sh2 := sh
    rw [shapeE_iff] at sh2
    obtain ⟨n, rfl⟩ : ∃ k : Nat, n = k := ⟨n.toNat, by omega⟩
    obtain ⟨room, rfl⟩ : ∃ k : Nat, room = k := ⟨room.toNat, by omega⟩
    obtain ⟨R, rfl⟩ : ∃ k : Nat, R = k := ⟨R.toNat, by omega⟩
    obtain ⟨c, rfl⟩ : ∃ k : Nat, c = k := ⟨c.toNat, by omega⟩
    by_cases hs9 : m ≤ 300 ∧ ∀ i, i < m → (Q i).size ≤ 100
    · exact few_in ctrE w S votes n room R c lv m Q uS h hm hq sh hs9
    · exact few_long ctrE w S votes n room R c lv m Q uS h hm hq sh hs9
  · exact few_out ctrE w S n room votes R c lv m Q uS i1 i2 i3 i4 i5 h hm hq (by simpa using sh)

/-! ### The row -/
theorem laidOut : laidOutB Try.prog = true := by kernel_rfl
set_option maxRecDepth 100000 in
theorem lifted (os : Os) (started : os.Started) (H : Type) (enc : TypeId × Value → H) :
    ReturnsInHanded {} Try.checked os 7 .any (Rows.elasticFewSpec.pre6 enc Try.prog Try.f7 Rows.elasticFewRow.domain false) (Rows.elasticFewSpec.post enc Try.prog Try.f7 false true false false) := by
  refine returnsInHanded_of_change (C := Try.checked) own started (by kernel_rfl) Try.func7
    (ChangeSpec.witness6 (enc := enc) (C := Try.checked) false ⟨#[], #[.agg #[.int .u64 0, .int .i64 0, .int .i64 0, .int .i64 0, .int .i64 0, .int .i64 0], .slice none 0 0], []⟩ 8 (by kernel_rfl) (by kernel_rfl) (by kernel_rfl) (by kernel_rfl)) ?_
  intro W base args ds gs before hval0 hW hcnd _
  have hval : ∀ (j : Nat) t v, Try.f7.params[j]? = some t → args[j]? = some v → Value.okWide Try.prog W .any base t v := hval0
  have hW' := hW
  obtain ⟨p, q, hA0, hV, rfl, hfz, hnd⟩ := hW
  have hA : DataW.TrodAll enc Try.prog W 0 (fun _ => true) true Try.f7.params.toList args.toList ds p := hA0
  rw [Try.params7] at hA hval
  obtain ⟨v0, vs0, d0, ds0, p0, q0, hargs, rfl, rfl, h0, r0⟩ := trodAll_cons hA
  obtain ⟨v1, vs1, d1, ds1, p1, q1, rfl, rfl, rfl, h1, r1⟩ := trodAll_cons r0
  obtain ⟨rfl, rfl, rfl⟩ := trodAll_nil r1
  obtain rfl : args = #[v0, v1] := by cases args; simp_all
  obtain ⟨rfl, rfl⟩ := trodVars_none hV
  have k0 := h0
  have lt0 : ∀ x ∈ p0, x.block < W.heap.size := by obtain ⟨m, hm⟩ := k0; exact DataW.trod_lt m _ _ _ hm
  obtain ⟨F0, w0⟩ := open_size (hval 0 60 v0 rfl rfl) h0
  have k1 := h1
  have lt1 : ∀ x ∈ p1, x.block < W.heap.size := by obtain ⟨m, hm⟩ := k1; exact DataW.trod_lt m _ _ _ hm
  obtain ⟨F1, w1⟩ := open_keys (hval 1 61 v1 rfl rfl) h1
  clear hA0 hval0
  refine (walk v0 F0 v1 F1 W w0 w1).mono fun e W' ⟨he, bel⟩ => ?_
  subst he
  exact ⟨_, rfl, _, _, _, [], _, [], hW', trodAll_mk1 (shut_bool Try.underlying4 _), (trodAll_cons_mk (Below.trod laidOut (by kernel_rfl) (of_decide_eq_true (by kernel_rfl)) k0 bel lt0) (trodAll_cons_mk (Below.trod laidOut (by kernel_rfl) (of_decide_eq_true (by kernel_rfl)) k1 bel lt1) trodAll_mk0)), rfl, bel.frame _, fun h => by cases h⟩

theorem over : Rows.elasticFewRow.holds Try.pinned (OpenSpec.ofChange Rows.elasticFewSpec) :=
  OpenClaim.holds_of_wide 7 Try.f7 rfl rfl rfl rfl rfl rfl rfl ⟨rfl, rfl, rfl, rfl, rfl⟩ rfl rfl rfl rfl rfl (by kernel_rfl) Try.func7 (by kernel_rfl)
    (of_decide_eq_true (by kernel_rfl)) (by unfold Func.isWrapper; first | (rw [if_pos (by decide +kernel)]; kernel_rfl) | (rw [if_neg (by decide +kernel)]; exact ⟨rfl, rfl⟩))
    (fun os started H enc _ => lifted os started H enc)

theorem proved : Rows.ElasticFewSaid := over
end Go.Proofs.Ytihealembikkiaa.elasticFew
namespace Go.Proofs.Ytihealembikkiaa
theorem elasticFew_holds : Rows.ElasticFewSaid := elasticFew.proved
#print axioms elasticFew_holds
end Go.Proofs.Ytihealembikkiaa
