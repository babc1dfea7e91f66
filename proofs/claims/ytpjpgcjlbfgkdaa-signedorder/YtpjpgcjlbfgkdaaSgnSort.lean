
/-
  slices.Sort of ints: what the library's shelf says of it, over this program, of a row of a call's own.
-/
import Derived.Test.YtpjpgcjlbfgkdaaLstOwn
import Derived.Test.YtpjpgcjlbfgkdaaSgnNum
import Derived.Shelf.Sort.Plain
import Derived.Sort.OwnSortedInts
namespace Go.Proofs.Ytpjpgcjlbfgkdaa
open Go.RowKit Go.Shelf Go.Deep
set_option linter.unusedVariables false

/-- slices.Sort is here as the library's shelf has it. -/
def rhoS : Go.Shelf.Ren := { f := fun n => if n = 125 then 44 else if n = 128 then 63 else if n = 129 then 64 else if n = 189 then 33 else if n = 215 then 77 else if n = 216 then 60 else if n = 257 then 43 else if n = 294 then 54 else if n = 295 then 55 else if n = 296 then 56 else if n = 297 then 57 else if n = 298 then 58 else if n = 299 then 59 else if n = 300 then 61 else if n = 301 then 62 else if n = 328 then 72 else if n = 329 then 73 else if n = 330 then 74 else if n = 331 then 75 else if n = 332 then 76 else 78, t := fun t => if t = 0 then 0 else if t = 3 then 3 else if t = 4 then 4 else if t = 5 then 5 else if t = 9 then 9 else if t = 28 then 33 else if t = 46 then 69 else if t = 51 then 82 else if t = 53 then 22 else if t = 131 then 79 else if t = 182 then 74 else if t = 183 then 75 else if t = 218 then 90 else if t = 222 then 94 else if t = 228 then 97 else 98, g := fun _ => 0 }
theorem laysS : Lays.n189 Try.prog rhoS := by
  constructor
  all_goals first | kernel_rfl | (intro w; kernel_rfl)
theorem getD_bang (l : List Int) (i : Nat) (h : i < l.length) : l.toArray[i]! = l.getD i 0 := by
  rw [getElem!_pos l.toArray i (by simpa using h)]
  simp [List.getD_eq_getElem?_getD, List.getElem?_eq_getElem h]
/-- A row of a call's own, sorted. -/
theorem gsort_any (w : World) (g n cap B : Nat) (z : Nat → Int) (h : RowN w g n z) (hn : n ≤ 100000) (hB : B ≤ g) :
    Calls Try.prog 33 #[.slice (some ⟨g, 0, none⟩) n cap] w fun e w' => e = .returned (.tuple #[]) ∧ RowN w' g n (fun i => (Sg.sortL z n).getD i 0) ∧ Below B w w' := by
  obtain ⟨cur, hb, hc⟩ := h
  have hlt := hb.lt
  have ez : ∀ j, j < n → ((List.range n).map z).toArray[j]! = z j := fun j hj => by
    rw [getD_bang _ _ (by simpa using hj)]
    simp [List.getD_eq_getElem?_getD, hj]
  have hH : Go.Sort.Holds (Value.int .i64) w g 0 ((List.range n).map z).toArray := fun j hj => by
    have hj' : j < n := by simpa using hj
    rw [Nat.zero_add, hb.cell j, ez j hj']
    exact ⟨hc j hj', hb.frozen j⟩
  have e := Any.slices_Sort_int laysS g 0 cap ((List.range n).map z) w hH hlt (by simp; omega)
  rw [show ((List.range n).map z).length = n by simp] at e
  refine e.mono ?_
  rintro e w' ⟨rfl, k, os, rfl⟩
  refine ⟨rfl, ⟨_, Go.heap_sortedI (n := k) (os := os) _ hb, fun i hi => ?_⟩, (Below.refl B w).grown (Go.grownBy_sortedI (n := k) (os := os) _) (by omega) (fun q hq => by cases hq; exact hB)⟩
  have hsz : i < cur.size := by
    rcases Nat.lt_or_ge i cur.size with hl | hl
    · exact hl
    · have := hc i hi
      rw [Array.getElem?_eq_none hl] at this
      cases this
  have hl : (Sg.sortL z n).length = n := Sg.sortL_length z n
  have e1 := getD_bang (Sg.sortL z n) i (by omega)
  unfold Sg.sortL at e1 hl ⊢
  simp [Go.Sort.putCells, hsz, hi]
end Go.Proofs.Ytpjpgcjlbfgkdaa
