
/-
  strings.Repeat: what the library's shelf says of it, over this program.
-/
import Derived.Test.YticopigpgaomjaaMemKit
import Derived.Shelf.Strings.Repeat
namespace Go.Proofs.Yticopigpgaomjaa
open Go.RowKit Oc Go.Shelf
set_option linter.unusedVariables false

/-- strings.Repeat is here as the library's shelf has it. -/
def rhoR : Go.Shelf.Ren := { f := fun n => if n = 99 then 72 else if n = 105 then 56 else if n = 165 then 61 else if n = 166 then 62 else if n = 169 then 63 else if n = 170 then 73 else if n = 206 then 83 else if n = 212 then 71 else if n = 240 then 74 else if n = 241 then 75 else if n = 263 then 81 else if n = 264 then 82 else if n = 276 then 84 else 85, t := fun t => if t = 37 then 51 else if t = 46 then 50 else if t = 51 then 128 else if t = 53 then 131 else if t = 70 then 100 else if t = 72 then 102 else if t = 75 then 105 else if t = 76 then 106 else if t = 80 then 108 else if t = 109 then 118 else if t = 127 then 122 else if t = 146 then 129 else if t = 148 then 132 else if t = 164 then 134 else t, g := fun _ => 0 }
theorem laysR : Lays.n105 Try.prog rhoR := by
  constructor
  all_goals first | kernel_rfl | (intro w; kernel_rfl)
theorem extraRX : Builder.X72 Try.prog rhoR := by
  constructor
  all_goals first | kernel_rfl | (intro w; kernel_rfl)
theorem extraR : Builder.Extra Try.prog rhoR := by
  refine ⟨extraRX, ?_, ?_, ?_, ?_, ?_, ?_, ?_, ?_⟩
  all_goals first | kernel_rfl | (intro w; kernel_rfl) | decide
theorem repeat_one (x : UInt8) (n : Nat) : Lib.repeatL [x] n = List.replicate n x := by
  induction n with
  | zero => rfl
  | succ n ih => rw [List.replicate_succ, ← ih]; rfl
theorem repeat_any (n : Nat) (w : World) (h : n ≤ 140737488355328) :
    Calls Try.prog 56 #[.string ⟨#[0]⟩, .int .i64 (n : Int)] w fun e w' => e = .returned (.string (bsL (List.replicate n 0))) ∧ Below w.heap.size w w' := by
  have e := Any.strings_Repeat laysR extraR ⟨#[0]⟩ n w (by omega) (by show 1 * n ≤ _; omega)
  rw [show (⟨#[0]⟩ : ByteArray).data.toList = [0] from rfl, repeat_one] at e
  exact e
end Go.Proofs.Yticopigpgaomjaa
