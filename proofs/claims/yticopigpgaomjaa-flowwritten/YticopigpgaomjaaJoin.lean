
/-
  strings.Join: what the library's shelf says of it, over this program.
-/
import Derived.Test.YticopigpgaomjaaEthTake
import Derived.Shelf.Strings.OnBuilder
namespace Go.Proofs.Yticopigpgaomjaa.L5
open Go.RowKit Oc Go.Shelf
set_option linter.unusedVariables false

/-- strings.Join is here as the library's shelf has it. -/
def rhoJ : Go.Shelf.Ren := { f := fun n => if n = 156 then 44 else if n = 165 then 61 else if n = 166 then 62 else if n = 169 then 63 else if n = 240 then 74 else if n = 241 then 75 else if n = 276 then 84 else 85, t := fun t => if t = 31 then 81 else if t = 37 then 51 else if t = 70 then 100 else if t = 72 then 102 else if t = 75 then 105 else if t = 76 then 106 else if t = 80 then 108 else if t = 127 then 122 else if t = 164 then 134 else t, g := fun _ => 0 }
theorem laysJ : Lays.n156 Try.prog rhoJ := by
  constructor
  all_goals first | kernel_rfl | (intro w; kernel_rfl)
theorem extraX : Builder.X72 Try.prog rhoJ := by
  constructor
  all_goals first | kernel_rfl | (intro w; kernel_rfl)
theorem extraJ : Builder.Extra Try.prog rhoJ := by
  refine ⟨extraX, ?_, ?_, ?_, ?_, ?_, ?_, ?_, ?_⟩
  all_goals first | kernel_rfl | (intro w; kernel_rfl) | decide
theorem join_empty (xs : List (List UInt8)) : Lib.join xs [] = xs.flatten := by
  cases xs with
  | nil => rfl
  | cons x r => rw [Lib.join_cons, Lib.joinTail]; simp
def strCells (xs : List (List UInt8)) : List Value := xs.map fun x => .string (bsL x)
theorem strCells_app (xs ys : List (List UInt8)) : strCells xs ++ strCells ys = strCells (xs ++ ys) := by simp [strCells]
theorem join_any (w : World) (v : Value) (base n : Nat) (xs : List (List UInt8)) (h : w.ownsRow base 9 1 v n (strCells xs)) (hn : 0 < n) (hN : n ≤ 140737488355328) (hl : xs.flatten.length ≤ 140737488355328) :
    Calls Try.prog 44 #[v, .string ⟨#[]⟩] w fun e w' => e = .returned (.string (bsL xs.flatten)) ∧ Below w.heap.size w w' := by
  have hx : xs.length = n := by have := h.1; simp [strCells] at this; exact this
  obtain ⟨g, cap, rfl, _, hg⟩ := h.form hn
  have hc : n ≤ cap := by
    rcases h.2 with ⟨e, _⟩ | ⟨g', cap', cur, e, _, _, hn', _⟩
    · cases e
    · cases e; exact hn'
  have ej : Lib.join ((xs.map bsL).map (·.data.toList)) (⟨#[]⟩ : ByteArray).data.toList = xs.flatten := by
    rw [List.map_map, show (xs.map ((fun x : ByteArray => x.data.toList) ∘ bsL)) = xs by
      rw [show ((fun x : ByteArray => x.data.toList) ∘ bsL) = id from funext fun x => by simp [bsL]]; simp]
    exact join_empty xs
  have e := Any.strings_Join laysJ extraJ g 0 cap (xs.map bsL) ⟨#[]⟩ w (fun j x hj => by
    have hlt : j < n := by
      rcases Nat.lt_or_ge j n with h1 | h1
      · exact h1
      · rw [List.getElem?_eq_none (by simp; omega)] at hj; cases hj
    rw [Nat.zero_add, h.cellAt (j := j) (by omega)]
    simp only [strCells, List.getElem?_map] at hj ⊢
    cases hq : xs[j]? with
    | none => rw [hq] at hj; cases hj
    | some q => rw [hq] at hj; simp at hj ⊢; rw [hj]) hg (by simp; omega) (by simp; omega) (by rw [ej]; exact hl)
  rw [ej, List.length_map, hx] at e
  exact e
end Go.Proofs.Yticopigpgaomjaa.L5
