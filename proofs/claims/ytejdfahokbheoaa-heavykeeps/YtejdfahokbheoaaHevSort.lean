
/-
  slices.SortFunc of items: what the library's shelf says of it, over this program.
-/
import Derived.Test.YtejdfahokbheoaaHevOffer
import Derived.Shelf.SlSortCmp.NoneTotal
namespace Go.Proofs.Ytejdfahokbheoaa
open Go.RowKit Hv Go.Deep Go.Shelf
set_option linter.unusedVariables false

/-- slices.SortFunc is here as the library's shelf has it. -/
def rhoI : Go.Shelf.Ren := { f := fun n => if n = 6 then 30 else if n = 14 then 34 else if n = 15 then 35 else if n = 20 then 39 else if n = 21 then 40 else if n = 22 then 41 else if n = 23 then 42 else if n = 24 then 43 else if n = 25 then 44 else if n = 26 then 45 else if n = 27 then 46 else if n = 28 then 47 else if n = 29 then 48 else if n = 46 then 51 else if n = 47 then 52 else if n = 48 then 53 else if n = 49 then 54 else if n = 50 then 55 else 56, t := fun t => if t = 0 then 0 else if t = 3 then 3 else if t = 4 then 4 else if t = 5 then 5 else if t = 9 then 9 else if t = 22 then 22 else if t = 24 then 30 else if t = 25 then 55 else if t = 39 then 60 else if t = 45 then 65 else if t = 46 then 66 else if t = 50 then 40 else if t = 53 then 72 else if t = 55 then 74 else if t = 66 then 78 else if t = 70 then 82 else if t = 76 then 84 else 85, g := fun _ => 0 }
theorem laysI : SlLaysF0.n6 Try.prog rhoI := by
  constructor
  case f6 => exact ⟨"slices.SortFunc[[]rillmeter/heavy.Item,rillmeter/heavy.Item]", by decide, by kernel_rfl⟩
  case f14 => exact ⟨"slices.pdqsortCmpFunc[rillmeter/heavy.Item]", by decide, by kernel_rfl⟩
  case f20 => exact ⟨"slices.insertionSortCmpFunc[rillmeter/heavy.Item]", by decide, by kernel_rfl⟩
  case f21 => exact ⟨"slices.heapSortCmpFunc[rillmeter/heavy.Item]", by decide, by kernel_rfl⟩
  case f22 => exact ⟨"slices.breakPatternsCmpFunc[rillmeter/heavy.Item]", by decide, by kernel_rfl⟩
  case f23 => exact ⟨"slices.choosePivotCmpFunc[rillmeter/heavy.Item]", by decide, by kernel_rfl⟩
  case f24 => exact ⟨"slices.reverseRangeCmpFunc[rillmeter/heavy.Item]", by decide, by kernel_rfl⟩
  case f25 => exact ⟨"slices.partialInsertionSortCmpFunc[rillmeter/heavy.Item]", by decide, by kernel_rfl⟩
  case f26 => exact ⟨"slices.partitionEqualCmpFunc[rillmeter/heavy.Item]", by decide, by kernel_rfl⟩
  case f27 => exact ⟨"slices.partitionCmpFunc[rillmeter/heavy.Item]", by decide, by kernel_rfl⟩
  case f46 => exact ⟨"slices.siftDownCmpFunc[rillmeter/heavy.Item]", by decide, by kernel_rfl⟩
  case f49 => exact ⟨"slices.medianAdjacentCmpFunc[rillmeter/heavy.Item]", by decide, by kernel_rfl⟩
  case f50 => exact ⟨"slices.medianCmpFunc[rillmeter/heavy.Item]", by decide, by kernel_rfl⟩
  case f57 => exact ⟨"slices.order2CmpFunc[rillmeter/heavy.Item]", by decide, by kernel_rfl⟩
  all_goals first | kernel_rfl | (intro w; kernel_rfl)
end Go.Proofs.Ytejdfahokbheoaa
