/-
  DERIVED. GIVEN WITH THE SEED: THE CARDS: each row of YtngejbmhoigceaaDoorRows.lean that lists a variable, with what it lists TIED to the program's text (the seventh form; the later family's looks); each row that meets fmt, with fmt's text TOLD by the authors' own Lean function (tested against real Go, not proved from fmt's source: count such statements apart). THE CARD IS WHAT COUNTS. Prove the row's statement (the work); the ties are given (YtngejbmhoigceaaDoorTie.lean); close each card by the builder's one call (the guide's Derived/Test/ToyasCard.lean, 'card_holds'). Laid BY PROGRAM, IN A SANDBOX (cutbox-door.mjs). By AI agents, Wed Nov 11 2026. No macro, syntax, notation, axiom, sorry.
-/
import Derived.Test.YtngejbmhoigceaaDoorRows
import GoSem.ClaimSeven
namespace Go.Proofs.YtngejbmhoigceaaDoor
namespace Rows

/-- THE TIED CARD OF 'rillmeterlaw02.HashWithin'. -/
def hashWithinCard : Claim7 := { stood := { row := hashWithinRow, standIns := [], harness := (true, "b58f9ff294d30b11485d45b8bce46032d8d95d38f2a95552078c3f7e883a2ef8"), looks := false }, kinds := [], alts := [], laidByText := true, laidKinds := [.data], laidTests := true, laidLooks := .later }
def HashWithinCardSaid : Prop := Claim7.holds Tryd.pinned (.plain (OpenSpec.ofChange hashWithinSpec)) hashWithinCard

/-- THE TIED CARD OF 'rillmeterlaw02.HashLevels'. -/
def hashLevelsCard : Claim7 := { stood := { row := hashLevelsRow, standIns := [], harness := (true, "b58f9ff294d30b11485d45b8bce46032d8d95d38f2a95552078c3f7e883a2ef8"), looks := false }, kinds := [], alts := [], laidByText := true, laidKinds := [.data], laidTests := true, laidLooks := .later }
def HashLevelsCardSaid : Prop := Claim7.holds Tryd.pinned (.plain (OpenSpec.ofChange hashLevelsSpec)) hashLevelsCard

/-- THE SECOND FORM's CARD OF 'rillmeterlaw02.HashWithin'. -/
def hashWithinUptoCard : Claim7 := { stood := { row := hashWithinUptoRow, standIns := [], harness := (true, "b58f9ff294d30b11485d45b8bce46032d8d95d38f2a95552078c3f7e883a2ef8"), looks := false }, kinds := [], alts := [], laidByText := true, laidKinds := [.data], laidTests := true, laidLooks := .later }
def HashWithinUptoCardSaid : Prop := Claim7.holds Tryd.pinned (.plain (OpenSpec.upto hashWithinSpec)) hashWithinUptoCard

/-- THE SECOND FORM's CARD OF 'rillmeterlaw02.HashLevels'. -/
def hashLevelsUptoCard : Claim7 := { stood := { row := hashLevelsUptoRow, standIns := [], harness := (true, "b58f9ff294d30b11485d45b8bce46032d8d95d38f2a95552078c3f7e883a2ef8"), looks := false }, kinds := [], alts := [], laidByText := true, laidKinds := [.data], laidTests := true, laidLooks := .later }
def HashLevelsUptoCardSaid : Prop := Claim7.holds Tryd.pinned (.plain (OpenSpec.upto hashLevelsSpec)) hashLevelsUptoCard
end Rows
end Go.Proofs.YtngejbmhoigceaaDoor
