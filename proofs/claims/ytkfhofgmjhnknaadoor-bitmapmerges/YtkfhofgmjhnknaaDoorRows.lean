/-
  NARROWER THAN 'FOR EVERY INPUT', by the rows' own cells (each row's printed sentence says how): BitmapNews: laid · BitmapTurns: laid · BitmapMerges: laid · BitmapGrows: laid · BitmapSets: laid.
  DERIVED. THE GIVEN ROWS OF THIS SEAT. 5 by the template 'for every input the law returns true; each argument reads behind the call as it read before'; 0 by the template 'total and deterministic' (their statements: YtkfhofgmjhnknaaDoorTotals.lean).
  GIVEN WITH THE SEED: the statements are not yours to turn. If you find one false, say at which input.
  Laid BY PROGRAM, IN A SANDBOX (cutbox-rows.mjs): the forced cells as the released guide's own fill.sh prints them over the translation a07e15bc464a781a… (all of the seat's roots in one cut). By AI agents, Wed Nov 11 2026. No macro, syntax, notation, axiom, sorry.
-/
import Derived.Test.YtkfhofgmjhnknaaDoorChecked
import GoSem.Claim
import GoSem.ClaimJoined
import GoSem.ClaimMapViews
import Derived.JoinedTies
import Derived.KernelRfl
namespace Go.Proofs.YtkfhofgmjhnknaaDoor
/- THE CELL 'sum', in the pinned program and in every row, IS THE sha256 OF THE DUMP (.gsa) THAT YtkfhofgmjhnknaaDoorProg.lean LOADS. Nothing in Lean hashes anything: it is a label: what it is worth is what the hold of that sum in a sandbox is worth. -/
noncomputable def Tryd.pinned : Pinned := { name := "ytkfhofgmjhnknaadoor", sum := "a07e15bc464a781af78e4457ef18419c27322ecaf97401f125f55066b0c5b4e3", checked := Tryd.checked }
namespace Rows
def none {H : Type} : Left H := { results := [], args := [] }

/- WHAT THE LISTED PACKAGE-LEVEL VARIABLES READ AS WHEN THE CALL BEGINS. Each datum BY PROGRAM (the guide's laid-datum.mjs) off the statement by which the dump's own 'gosem.cut.vars' lays the variable. In a bare row this is a premise. The card (YtkfhofgmjhnknaaDoorCards.lean) ties it to the program's text. -/
def laid_math_bits_deBruijn64tab {H : Type} : DataW H := .agg [.lit (.int .u8 0), .lit (.int .u8 1), .lit (.int .u8 56), .lit (.int .u8 2), .lit (.int .u8 57), .lit (.int .u8 49), .lit (.int .u8 28), .lit (.int .u8 3), .lit (.int .u8 61), .lit (.int .u8 58), .lit (.int .u8 42), .lit (.int .u8 50), .lit (.int .u8 38), .lit (.int .u8 29), .lit (.int .u8 17), .lit (.int .u8 4), .lit (.int .u8 62), .lit (.int .u8 47), .lit (.int .u8 59), .lit (.int .u8 36), .lit (.int .u8 45), .lit (.int .u8 43), .lit (.int .u8 51), .lit (.int .u8 22), .lit (.int .u8 53), .lit (.int .u8 39), .lit (.int .u8 33), .lit (.int .u8 30), .lit (.int .u8 24), .lit (.int .u8 18), .lit (.int .u8 12), .lit (.int .u8 5), .lit (.int .u8 63), .lit (.int .u8 55), .lit (.int .u8 48), .lit (.int .u8 27), .lit (.int .u8 60), .lit (.int .u8 41), .lit (.int .u8 37), .lit (.int .u8 16), .lit (.int .u8 46), .lit (.int .u8 35), .lit (.int .u8 44), .lit (.int .u8 21), .lit (.int .u8 52), .lit (.int .u8 32), .lit (.int .u8 23), .lit (.int .u8 11), .lit (.int .u8 54), .lit (.int .u8 26), .lit (.int .u8 40), .lit (.int .u8 15), .lit (.int .u8 34), .lit (.int .u8 20), .lit (.int .u8 31), .lit (.int .u8 10), .lit (.int .u8 25), .lit (.int .u8 14), .lit (.int .u8 19), .lit (.int .u8 9), .lit (.int .u8 13), .lit (.int .u8 8), .lit (.int .u8 7), .lit (.int .u8 6)]

/-- 'rillmeterlaw13.BitmapNews': WHATEVER THE INPUT: true; the input reads as it did. -/
def bitmapNewsSpec : ChangeSpec := { name := "bitmapNews", fn := fun _ => fun
  | [d1, d2, d3] => { results := [.lit (.bool true)], args := [d1, d2, d3] }
  | _ => none }
def bitmapNewsRow : OpenClaim := { program := "ytkfhofgmjhnknaadoor", sum := "a07e15bc464a781af78e4457ef18419c27322ecaf97401f125f55066b0c5b4e3", func := "rillmeter/rillmeterlaw13.BitmapNews", spec := "bitmapNews", named := ["math/bits.deBruijn64tab"], apart := false, laid := [("math/bits.deBruijn64tab", laid_math_bits_deBruijn64tab)] }
def BitmapNewsSaid : Prop := bitmapNewsRow.holds Tryd.pinned (OpenSpec.ofChange bitmapNewsSpec)

/-- ITS FALSE NEIGHBOUR: 'it returns false'. Refute it at one input. -/
def bitmapNewsWrong : ChangeSpec := { name := "bitmapNews", fn := fun _ => fun
  | [d1, d2, d3] => { results := [.lit (.bool false)], args := [d1, d2, d3] }
  | _ => none }
def BitmapNewsWrongFalsely : Prop := bitmapNewsRow.holds Tryd.pinned (OpenSpec.ofChange bitmapNewsWrong)

/-- 'rillmeterlaw13.BitmapTurns': WHATEVER THE INPUT: true; the input reads as it did. -/
def bitmapTurnsSpec : ChangeSpec := { name := "bitmapTurns", fn := fun _ => fun
  | [d1, d2] => { results := [.lit (.bool true)], args := [d1, d2] }
  | _ => none }
def bitmapTurnsRow : OpenClaim := { program := "ytkfhofgmjhnknaadoor", sum := "a07e15bc464a781af78e4457ef18419c27322ecaf97401f125f55066b0c5b4e3", func := "rillmeter/rillmeterlaw13.BitmapTurns", spec := "bitmapTurns", recurses := true, named := ["math/bits.deBruijn64tab"], apart := false, laid := [("math/bits.deBruijn64tab", laid_math_bits_deBruijn64tab)] }
def BitmapTurnsSaid : Prop := bitmapTurnsRow.holds Tryd.pinned (OpenSpec.ofChange bitmapTurnsSpec)

/-- ITS FALSE NEIGHBOUR: 'it returns false'. Refute it at one input. -/
def bitmapTurnsWrong : ChangeSpec := { name := "bitmapTurns", fn := fun _ => fun
  | [d1, d2] => { results := [.lit (.bool false)], args := [d1, d2] }
  | _ => none }
def BitmapTurnsWrongFalsely : Prop := bitmapTurnsRow.holds Tryd.pinned (OpenSpec.ofChange bitmapTurnsWrong)

/-- 'rillmeterlaw13.BitmapMerges': WHATEVER THE INPUT: true; the input reads as it did. -/
def bitmapMergesSpec : ChangeSpec := { name := "bitmapMerges", fn := fun _ => fun
  | [d1, d2] => { results := [.lit (.bool true)], args := [d1, d2] }
  | _ => none }
def bitmapMergesRow : OpenClaim := { program := "ytkfhofgmjhnknaadoor", sum := "a07e15bc464a781af78e4457ef18419c27322ecaf97401f125f55066b0c5b4e3", func := "rillmeter/rillmeterlaw13.BitmapMerges", spec := "bitmapMerges", named := ["math/bits.deBruijn64tab"], apart := false, laid := [("math/bits.deBruijn64tab", laid_math_bits_deBruijn64tab)] }
def BitmapMergesSaid : Prop := bitmapMergesRow.holds Tryd.pinned (OpenSpec.ofChange bitmapMergesSpec)

/-- ITS FALSE NEIGHBOUR: 'it returns false'. Refute it at one input. -/
def bitmapMergesWrong : ChangeSpec := { name := "bitmapMerges", fn := fun _ => fun
  | [d1, d2] => { results := [.lit (.bool false)], args := [d1, d2] }
  | _ => none }
def BitmapMergesWrongFalsely : Prop := bitmapMergesRow.holds Tryd.pinned (OpenSpec.ofChange bitmapMergesWrong)

/-- 'rillmeterlaw13.BitmapGrows': WHATEVER THE INPUT: true; the input reads as it did. -/
def bitmapGrowsSpec : ChangeSpec := { name := "bitmapGrows", fn := fun _ => fun
  | [d1, d2, d3, d4, d5] => { results := [.lit (.bool true)], args := [d1, d2, d3, d4, d5] }
  | _ => none }
def bitmapGrowsRow : OpenClaim := { program := "ytkfhofgmjhnknaadoor", sum := "a07e15bc464a781af78e4457ef18419c27322ecaf97401f125f55066b0c5b4e3", func := "rillmeter/rillmeterlaw13.BitmapGrows", spec := "bitmapGrows", named := ["math/bits.deBruijn64tab"], apart := false, laid := [("math/bits.deBruijn64tab", laid_math_bits_deBruijn64tab)] }
def BitmapGrowsSaid : Prop := bitmapGrowsRow.holds Tryd.pinned (OpenSpec.ofChange bitmapGrowsSpec)

/-- ITS FALSE NEIGHBOUR: 'it returns false'. Refute it at one input. -/
def bitmapGrowsWrong : ChangeSpec := { name := "bitmapGrows", fn := fun _ => fun
  | [d1, d2, d3, d4, d5] => { results := [.lit (.bool false)], args := [d1, d2, d3, d4, d5] }
  | _ => none }
def BitmapGrowsWrongFalsely : Prop := bitmapGrowsRow.holds Tryd.pinned (OpenSpec.ofChange bitmapGrowsWrong)

/-- 'rillmeterlaw13.BitmapSets': WHATEVER THE INPUT: true; the input reads as it did. -/
def bitmapSetsSpec : ChangeSpec := { name := "bitmapSets", fn := fun _ => fun
  | [d1, d2, d3, d4] => { results := [.lit (.bool true)], args := [d1, d2, d3, d4] }
  | _ => none }
def bitmapSetsRow : OpenClaim := { program := "ytkfhofgmjhnknaadoor", sum := "a07e15bc464a781af78e4457ef18419c27322ecaf97401f125f55066b0c5b4e3", func := "rillmeter/rillmeterlaw13.BitmapSets", spec := "bitmapSets", named := ["math/bits.deBruijn64tab"], apart := false, laid := [("math/bits.deBruijn64tab", laid_math_bits_deBruijn64tab)] }
def BitmapSetsSaid : Prop := bitmapSetsRow.holds Tryd.pinned (OpenSpec.ofChange bitmapSetsSpec)

/-- ITS FALSE NEIGHBOUR: 'it returns false'. Refute it at one input. -/
def bitmapSetsWrong : ChangeSpec := { name := "bitmapSets", fn := fun _ => fun
  | [d1, d2, d3, d4] => { results := [.lit (.bool false)], args := [d1, d2, d3, d4] }
  | _ => none }
def BitmapSetsWrongFalsely : Prop := bitmapSetsRow.holds Tryd.pinned (OpenSpec.ofChange bitmapSetsWrong)

/- THE SECOND FORM. 'bulk': how many values and letters a reading holds, each counted each time it is reached (what is shared counts as often as it is met; a slice's spare places count too). A statement '..UptoSaid' is the law's where the arguments, and the package variables that the reading takes, are together of bulk at most 1048576: NARROWER than '..Said'. Prove '..Said' where nothing that the law and all that it calls make is longer than what came in: it says more and counts as full. Else prove '..UptoSaid'. A law counts once. -/
mutual
def uptoBulk {H : Type} : DataW H → Nat
  | .lit (.string bytes) => bytes.length + 1
  | .lit _ => 1
  | .nil => 1
  | .ptr d => uptoBulk d + 1
  | .slice elems spare => uptoBulkAll elems + uptoBulkAll spare + 1
  | .agg parts => uptoBulkAll parts + 1
  | .iface _ d => uptoBulk d + 1
  | .map entries => uptoBulkEntries entries + 1
  | .held _ => 1
def uptoBulkAll {H : Type} : List (DataW H) → Nat
  | [] => 0
  | d :: r => uptoBulk d + uptoBulkAll r
def uptoBulkEntries {H : Type} : List (Lit × DataW H) → Nat
  | [] => 0
  | x :: r => uptoBulkEntry x + uptoBulkEntries r
def uptoBulkEntry {H : Type} : Lit × DataW H → Nat
  | (.string bytes, d) => bytes.length + uptoBulk d + 1
  | (_, d) => uptoBulk d + 1
 end
def uptoSmall : (H : Type) → List (DataW H) → Bool := fun _ ds => decide (uptoBulkAll ds ≤ 1048576)
def OpenSpec.upto (s : _root_.Go.ChangeSpec) : _root_.Go.OpenSpec := { _root_.Go.OpenSpec.ofChange s with cond := some uptoSmall }

/-- 'rillmeterlaw13.BitmapNews', WHERE WHAT IT READS IS OF BULK AT MOST 1048576: true; the input reads as it did. -/
def bitmapNewsUptoRow : OpenClaim := { program := "ytkfhofgmjhnknaadoor", sum := "a07e15bc464a781af78e4457ef18419c27322ecaf97401f125f55066b0c5b4e3", func := "rillmeter/rillmeterlaw13.BitmapNews", spec := "bitmapNews", named := ["math/bits.deBruijn64tab"], apart := false, laid := [("math/bits.deBruijn64tab", laid_math_bits_deBruijn64tab)], narrowed := true }
def BitmapNewsUptoSaid : Prop := bitmapNewsUptoRow.holds Tryd.pinned (OpenSpec.upto bitmapNewsSpec)

/-- 'rillmeterlaw13.BitmapTurns', WHERE WHAT IT READS IS OF BULK AT MOST 1048576: true; the input reads as it did. -/
def bitmapTurnsUptoRow : OpenClaim := { program := "ytkfhofgmjhnknaadoor", sum := "a07e15bc464a781af78e4457ef18419c27322ecaf97401f125f55066b0c5b4e3", func := "rillmeter/rillmeterlaw13.BitmapTurns", spec := "bitmapTurns", recurses := true, named := ["math/bits.deBruijn64tab"], apart := false, laid := [("math/bits.deBruijn64tab", laid_math_bits_deBruijn64tab)], narrowed := true }
def BitmapTurnsUptoSaid : Prop := bitmapTurnsUptoRow.holds Tryd.pinned (OpenSpec.upto bitmapTurnsSpec)

/-- 'rillmeterlaw13.BitmapMerges', WHERE WHAT IT READS IS OF BULK AT MOST 1048576: true; the input reads as it did. -/
def bitmapMergesUptoRow : OpenClaim := { program := "ytkfhofgmjhnknaadoor", sum := "a07e15bc464a781af78e4457ef18419c27322ecaf97401f125f55066b0c5b4e3", func := "rillmeter/rillmeterlaw13.BitmapMerges", spec := "bitmapMerges", named := ["math/bits.deBruijn64tab"], apart := false, laid := [("math/bits.deBruijn64tab", laid_math_bits_deBruijn64tab)], narrowed := true }
def BitmapMergesUptoSaid : Prop := bitmapMergesUptoRow.holds Tryd.pinned (OpenSpec.upto bitmapMergesSpec)

/-- 'rillmeterlaw13.BitmapGrows', WHERE WHAT IT READS IS OF BULK AT MOST 1048576: true; the input reads as it did. -/
def bitmapGrowsUptoRow : OpenClaim := { program := "ytkfhofgmjhnknaadoor", sum := "a07e15bc464a781af78e4457ef18419c27322ecaf97401f125f55066b0c5b4e3", func := "rillmeter/rillmeterlaw13.BitmapGrows", spec := "bitmapGrows", named := ["math/bits.deBruijn64tab"], apart := false, laid := [("math/bits.deBruijn64tab", laid_math_bits_deBruijn64tab)], narrowed := true }
def BitmapGrowsUptoSaid : Prop := bitmapGrowsUptoRow.holds Tryd.pinned (OpenSpec.upto bitmapGrowsSpec)

/-- 'rillmeterlaw13.BitmapSets', WHERE WHAT IT READS IS OF BULK AT MOST 1048576: true; the input reads as it did. -/
def bitmapSetsUptoRow : OpenClaim := { program := "ytkfhofgmjhnknaadoor", sum := "a07e15bc464a781af78e4457ef18419c27322ecaf97401f125f55066b0c5b4e3", func := "rillmeter/rillmeterlaw13.BitmapSets", spec := "bitmapSets", named := ["math/bits.deBruijn64tab"], apart := false, laid := [("math/bits.deBruijn64tab", laid_math_bits_deBruijn64tab)], narrowed := true }
def BitmapSetsUptoSaid : Prop := bitmapSetsUptoRow.holds Tryd.pinned (OpenSpec.upto bitmapSetsSpec)

end Rows
end Go.Proofs.YtkfhofgmjhnknaaDoor
