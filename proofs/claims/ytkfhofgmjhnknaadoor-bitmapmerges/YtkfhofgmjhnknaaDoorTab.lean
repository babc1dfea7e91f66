
/-
  What a row's condition on math/bits.deBruijn64tab gives the walks: each cell of the table.
-/
import Derived.Test.YtkfhofgmjhnknaaDoorHashCalls
import Derived.Lib.LaidTab
import Derived.LaidMore
import Derived.FnData
import Derived.MakeChecks
namespace Go.Proofs.YtkfhofgmjhnknaaDoor
open Go.RowKit Fm

theorem gTab : Tryd.prog.globalNamed "math/bits.deBruijn64tab" = some 0 := by kernel_rfl
theorem tTab : (Tryd.prog.globals[0]?).map (·.type) = some 64 := by kernel_rfl
theorem cTab : Tryd.prog.cellsOf 64 = 64 := by kernel_rfl
theorem c5 : Tryd.prog.cellsOf 5 = 1 := by kernel_rfl
def zs : List Int := Lib.deBruijn64tab.map fun (n : Nat) => (n : Int)
theorem tab_is : (Rows.laid_math_bits_deBruijn64tab : DataW Unit) = Lib.tabData .u8 zs := by rfl
theorem tab_of {W : World} (h : laidMetH Tryd.prog [("math/bits.deBruijn64tab", Rows.laid_math_bits_deBruijn64tab)] W) : TabAt 0 Lib.deBruijn64tab W := by
  rw [MakeChecks.laidMetH_plain _ _ _ (by kernel_rfl), tab_is] at h
  have t := Lib.tabIs_of_head gTab tTab Tryd.underlying64 Tryd.underlying5 c5 cTab h
  intro j hj
  rw [World.var?_cell gTab t j]
  unfold zs
  simp only [List.map_map, List.getElem?_toArray, List.getElem?_map, Function.comp_def]
  rw [List.getElem?_eq_getElem hj]
  simp [List.getD_eq_getElem?_getD, List.getElem?_eq_getElem hj]
end Go.Proofs.YtkfhofgmjhnknaaDoor
