/-
  The laws' fixed answer.
-/
import Derived.Test.YtodjjjggjinliaaEthRTake
import Derived.Test.YtodjjjggjinliaaEthRPut
namespace Go.Proofs.Ytodjjjggjinliaa
open Go.RowKit Oc Et Go.Deep
set_option linter.unusedVariables false

theorem fr_two (l : List UInt8) : (frOf l).n ≤ 2 := by
  by_cases h : takeE l = 0
  · obtain ⟨k, o, _, _, h3⟩ := done_of h
    rw [(fr_ok ⟨h, h3⟩).1]; exact o.2.1
  · rw [(fr_err h).1]; decide
theorem keep_heap {u v w : World} (h : Keep u v) (e : w.heap = v.heap) : Keep u w := fun a x k => by
  have := h a x k
  unfold World.cell? at this ⊢
  rw [e]; exact this
theorem tmod_is (v : Int) : v.tmod 4096 = if 0 ≤ v then v % 4096 else -((-v) % 4096) := by
  split
  · next h => exact Int.tmod_eq_emod_of_nonneg h
  · next h =>
    have e := Int.neg_tmod (-v) 4096
    rw [Int.neg_neg] at e
    rw [e, Int.tmod_eq_emod_of_nonneg (by omega)]
theorem zero_at (w : World) : FrameAt w (.agg #[.string ⟨#[]⟩, .string ⟨#[]⟩, .slice none 0 0, .int .i64 0]) zeroFr :=
  ⟨_, rfl, none, 0, 0, 0, rfl, Nat.le_refl _, fun (h : 0 < 0) => absurd h (by omega), fun i (h : i < 0) => absurd h (by omega)⟩
def wakeL : List UInt8 := [97, 97, 97, 97, 97, 97, 98, 98, 98, 98, 98, 98, 8, 0, 120]
theorem wake_e : takeE wakeL = 0 := by decide +kernel
theorem wake_d : bsL (frOf wakeL).d = ⟨#[97, 97, 97, 97, 97, 97]⟩ := by decide +kernel
theorem wake_s : bsL (frOf wakeL).s = ⟨#[98, 98, 98, 98, 98, 98]⟩ := by decide +kernel
theorem wake_n : (frOf wakeL).n = 0 := by decide +kernel
theorem wake_t : (frOf wakeL).T = 2048 := by decide +kernel
theorem wake_r : bsL (restOf wakeL) = ⟨#[120]⟩ := by decide +kernel
set_option maxHeartbeats 1600000 in
theorem awake_any (w : World) : Calls Try.prog 8 #[] w fun e w' => e = .returned (.bool true) ∧ Below w.heap.size w w' := by
  have HR : Hid (RightP (frOf wakeL)) := (right_of wake_e).1
  go_enter Try.func8, Try.ntmps8
  go_wp2_with fail
  refine (etake_any _ wakeL (by decide)).mono ?_
  rintro e u1 ⟨x, rfl, fx, b1⟩
  have HX : Hid (∀ w' : World, Keep u1 w' → FrameAt w' x (frOf wakeL)) := fun w' k => fx.keep k
  obtain ⟨v, rfl, tv⟩ := fx
  obtain ⟨Av, cpv, rfl⟩ := tv.form
  rw [wake_r, wake_e]
  rw [wake_d, wake_s, wake_t, wake_n] at HX ⊢
  clear tv
  have B2 : Hid (Below u1.heap.size u1 (u1.alloc (.cells #[.string ⟨#[97, 97, 97, 97, 97, 97]⟩, .string ⟨#[98, 98, 98, 98, 98, 98]⟩, .slice Av 0 cpv, .int .i64 2048] 25))) := (Below.refl _ _).alloc (Nat.le_refl _) _
  go_wp2_with fail
  refine (right_any _ _ (frOf wakeL) (HX.out _ (keep_of_below B2.out)) (by rw [wake_n]; omega)).mono ?_
  rintro e u2 ⟨B, rfl, hB, b2⟩
  have eB : B = true := hB.2 HR.out
  subst eB
  clear hB
  go_wp2_with fail
  refine (id_any 0 4098 _).mono ?_
  rintro e u3 ⟨rfl, b3⟩
  go_wp2_with fail
  go_ret
  exact ⟨rfl, bel_trans (bel_trans (bel_trans b1 B2.out) b2) b3⟩
end Go.Proofs.Ytodjjjggjinliaa
