/-
  The laws' fixed answer.
-/
import Derived.Test.YtmblgiidfknodaaIp4Put
namespace Go.Proofs.Ytmblgiidfknodaa
open Go.RowKit Oc Ip4 Go.Deep
set_option linter.unusedVariables false

theorem wake_s : bsL (headL 0 0 0 0 64 17 [10, 0, 0, 1] [10, 0, 0, 2] [] ([] : List UInt8).length ++ []) = ⟨#[69, 0, 0, 20, 0, 0, 0, 0, 64, 17, 102, 215, 10, 0, 0, 1, 10, 0, 0, 2]⟩ := by decide +kernel
theorem wake_right : RightP ⟨(0 : Nat), (0 : Nat), (0 : Nat), (0 : Nat), (64 : Nat), (17 : Nat), [10, 0, 0, 1], [10, 0, 0, 2], []⟩ := by unfold RightP; simp
set_option maxHeartbeats 1600000 in
theorem awake_any (w : World) : Calls Try.prog 8 #[] w fun e w' => e = .returned (.bool true) ∧ Below w.heap.size w w' := by
  go_enter Try.func8, Try.ntmps8
  go_wp2_with fail
  refine (pput_ok _ 0 0 0 0 64 17 [10, 0, 0, 1] [10, 0, 0, 2] [] [] wake_right (by simp)).mono ?_
  rintro e u1 ⟨rfl, b1⟩
  rw [wake_s]
  go_wp2_with fail
  go_ret
  exact ⟨rfl, b1⟩
end Go.Proofs.Ytmblgiidfknodaa
