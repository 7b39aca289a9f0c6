/-
  DERIVED. GIVEN WITH THE SEED: THE CARDS: each row of YthfjofmfiklegabDoorRows.lean that lists a variable, with what it lists TIED to the program's text (the seventh form; the later family's looks); each row that meets fmt, with fmt's text TOLD by the authors' own Lean function (tested against real Go, not proved from fmt's source: count such statements apart). THE CARD IS WHAT COUNTS. Prove the row's statement (the work); the ties are given (YthfjofmfiklegabDoorTie.lean); close each card by the builder's one call (the guide's Derived/Test/ToyasCard.lean, 'card_holds'). Laid BY PROGRAM, IN A SANDBOX (cutbox-door.mjs). By AI agents, Wed Nov 11 2026. No macro, syntax, notation, axiom, sorry.
-/
import Derived.Test.YthfjofmfiklegabDoorRows
import GoSem.ClaimSeven
namespace Go.Proofs.YthfjofmfiklegabDoor
namespace Rows

/-- THE TIED CARD OF 'pantrylaw4.TreeAbove'. -/
def treeAboveCard : Claim7 := { stood := { row := treeAboveRow, standIns := [], harness := (true, "feeecddc5d42d8d435acee1c8dd1421879fe86c4bedbcec8e0991b9ea4855cfa"), looks := false }, kinds := [], alts := [], laidByText := true, laidKinds := [.data, .pinned], laidTests := true, laidLooks := .later }
def TreeAboveCardSaid : Prop := Claim7.holds Tryd.pinned (.plain (OpenSpec.ofChange treeAboveSpec)) treeAboveCard

/-- THE SECOND FORM's CARD OF 'pantrylaw4.TreeAbove'. -/
def treeAboveUptoCard : Claim7 := { stood := { row := treeAboveUptoRow, standIns := [], harness := (true, "feeecddc5d42d8d435acee1c8dd1421879fe86c4bedbcec8e0991b9ea4855cfa"), looks := false }, kinds := [], alts := [], laidByText := true, laidKinds := [.data, .pinned], laidTests := true, laidLooks := .later }
def TreeAboveUptoCardSaid : Prop := Claim7.holds Tryd.pinned (.plain (OpenSpec.upto treeAboveSpec)) treeAboveUptoCard
end Rows
end Go.Proofs.YthfjofmfiklegabDoor
