/-
  strings.Repeat: what the library's shelf says of it, over this program.
-/
import Derived.Test.YtjecmkibddmheaaMemKit
import Derived.Shelf.Strings.Repeat
namespace Go.Proofs.Ytjecmkibddmheaa
open Go.RowKit Oc Go.Shelf
set_option linter.unusedVariables false

/-- strings.Repeat is here as the library's shelf has it. -/
def rhoR : Go.Shelf.Ren := { f := fun n => if n = 99 then 31 else if n = 105 then 26 else if n = 165 then 32 else if n = 166 then 33 else if n = 169 then 35 else if n = 170 then 34 else if n = 206 then 38 else if n = 212 then 30 else if n = 240 then 39 else if n = 241 then 40 else if n = 263 then 36 else if n = 264 then 37 else if n = 276 then 41 else 42, t := fun t => if t = 37 then 37 else if t = 46 then 46 else if t = 51 then 66 else if t = 53 then 69 else if t = 70 then 56 else if t = 72 then 58 else if t = 75 then 61 else if t = 76 then 62 else if t = 80 then 65 else if t = 109 then 53 else if t = 127 then 72 else if t = 146 then 67 else if t = 148 then 70 else if t = 164 then 73 else t, g := fun _ => 0 }
theorem laysR : Lays.n105 Try.prog rhoR := by
  constructor
  all_goals first | kernel_rfl | (intro w; kernel_rfl)
theorem extraRX : Builder.X72 Try.prog rhoR := by
  constructor
  all_goals first | kernel_rfl | (intro w; kernel_rfl)
theorem extraR : Builder.Extra Try.prog rhoR := by
  refine ⟨extraRX, ?_, ?_, ?_, ?_, ?_, ?_, ?_, ?_⟩
  all_goals first | kernel_rfl | (intro w; kernel_rfl) | decide
theorem repeat_one (x : UInt8) (n : Nat) : Lib.repeatL [x] n = List.replicate n x := by
  induction n with
  | zero => rfl
  | succ n ih => rw [List.replicate_succ, ← ih]; rfl
theorem repeat_any (n : Nat) (w : World) (h : n ≤ 140737488355328) :
    Calls Try.prog 26 #[.string ⟨#[0]⟩, .int .i64 (n : Int)] w fun e w' => e = .returned (.string (bsL (List.replicate n 0))) ∧ Below w.heap.size w w' := by
  have e := Any.strings_Repeat laysR extraR ⟨#[0]⟩ n w (by omega) (by show 1 * n ≤ _; omega)
  rw [show (⟨#[0]⟩ : ByteArray).data.toList = [0] from rfl, repeat_one] at e
  exact e
end Go.Proofs.Ytjecmkibddmheaa
