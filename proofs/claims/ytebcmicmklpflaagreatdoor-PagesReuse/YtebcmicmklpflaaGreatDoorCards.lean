/-
  DERIVED. GIVEN WITH THE SEED: THE CARDS: each row of YtebcmicmklpflaaGreatDoorRows.lean that lists a variable, with what it lists TIED to the program's text (the seventh form; the later family's looks); each row that meets fmt, with fmt's text TOLD by the authors' own Lean function (tested against real Go, not proved from fmt's source: count such statements apart). THE CARD IS WHAT COUNTS. Prove the row's statement (the work); the ties are given (YtebcmicmklpflaaGreatDoorTie.lean); close each card by the builder's one call (the guide's Derived/Test/ToyasCard.lean, 'card_holds'). Laid BY PROGRAM, IN A SANDBOX (cutbox-door.mjs). By AI agents, Wed Nov 11 2026. No macro, syntax, notation, axiom, sorry.
-/
import Derived.Test.YtebcmicmklpflaaGreatDoorRows
import GoSem.ClaimSeven
namespace Go.Proofs.YtebcmicmklpflaaGreatDoor
namespace Rows

/-- THE TIED CARD OF 'pantrylaw8.JournalPlays'. -/
def journalPlaysCard : Claim7 := { stood := { row := journalPlaysRow, standIns := [], harness := (true, "19f48768159f6d0a356ed4034c0f11e550f52fbeb0966ad74c8797d6810b7617"), looks := true }, kinds := [], alts := [], laidByText := true, laidKinds := [.data, .data, .data, .sentinel, .sentinel], laidTests := true, laidLooks := .later }
def JournalPlaysCardSaid : Prop := Claim7.holds Tryz.pinned (.plain (OpenSpec.ofChange journalPlaysSpec)) journalPlaysCard

/-- THE TIED CARD OF 'pantrylaw8.JournalWhole'. -/
def journalWholeCard : Claim7 := { stood := { row := journalWholeRow, standIns := [], harness := (true, "19f48768159f6d0a356ed4034c0f11e550f52fbeb0966ad74c8797d6810b7617"), looks := true }, kinds := [], alts := [], laidByText := true, laidKinds := [.data, .data, .data, .sentinel, .sentinel], laidTests := true, laidLooks := .later }
def JournalWholeCardSaid : Prop := Claim7.holds Tryz.pinned (.plain (OpenSpec.ofChange journalWholeSpec)) journalWholeCard

/-- THE TIED CARD OF 'pantrylaw8.JournalDead'. -/
def journalDeadCard : Claim7 := { stood := { row := journalDeadRow, standIns := [], harness := (true, "19f48768159f6d0a356ed4034c0f11e550f52fbeb0966ad74c8797d6810b7617"), looks := true }, kinds := [], alts := [], laidByText := true, laidKinds := [.data, .data, .data, .sentinel, .sentinel], laidTests := true, laidLooks := .later }
def JournalDeadCardSaid : Prop := Claim7.holds Tryz.pinned (.plain (OpenSpec.ofChange journalDeadSpec)) journalDeadCard

/-- THE TIED CARD OF 'pantrylaw8.JournalOther'. -/
def journalOtherCard : Claim7 := { stood := { row := journalOtherRow, standIns := [], harness := (true, "19f48768159f6d0a356ed4034c0f11e550f52fbeb0966ad74c8797d6810b7617"), looks := true }, kinds := [], alts := [], laidByText := true, laidKinds := [.data, .data, .data, .sentinel, .sentinel], laidTests := true, laidLooks := .later }
def JournalOtherCardSaid : Prop := Claim7.holds Tryz.pinned (.plain (OpenSpec.ofChange journalOtherSpec)) journalOtherCard

/-- THE TIED CARD OF 'pantrylaw8.JournalOfNothing'. -/
def journalOfNothingCard : Claim7 := { stood := { row := journalOfNothingRow, standIns := [], harness := (true, "19f48768159f6d0a356ed4034c0f11e550f52fbeb0966ad74c8797d6810b7617"), looks := true }, kinds := [], alts := [], laidByText := true, laidKinds := [.data, .data, .data, .sentinel, .sentinel], laidTests := true, laidLooks := .later }
def JournalOfNothingCardSaid : Prop := Claim7.holds Tryz.pinned (.plain (OpenSpec.ofChange journalOfNothingSpec)) journalOfNothingCard

/-- THE TIED CARD OF 'pantrylaw9.PagesPlays'. -/
def pagesPlaysCard : Claim7 := { stood := { row := pagesPlaysRow, standIns := [], harness := (true, "19f48768159f6d0a356ed4034c0f11e550f52fbeb0966ad74c8797d6810b7617"), looks := true }, kinds := [], alts := [], laidByText := true, laidKinds := [.data, .data, .data, .sentinel, .sentinel], laidTests := true, laidLooks := .later }
def PagesPlaysCardSaid : Prop := Claim7.holds Tryz.pinned (.plain (OpenSpec.ofChange pagesPlaysSpec)) pagesPlaysCard

/-- THE TIED CARD OF 'pantrylaw9.PagesWhole'. -/
def pagesWholeCard : Claim7 := { stood := { row := pagesWholeRow, standIns := [], harness := (true, "19f48768159f6d0a356ed4034c0f11e550f52fbeb0966ad74c8797d6810b7617"), looks := true }, kinds := [], alts := [], laidByText := true, laidKinds := [.data, .data, .data, .sentinel, .sentinel], laidTests := true, laidLooks := .later }
def PagesWholeCardSaid : Prop := Claim7.holds Tryz.pinned (.plain (OpenSpec.ofChange pagesWholeSpec)) pagesWholeCard

/-- THE TIED CARD OF 'pantrylaw9.PagesDead'. -/
def pagesDeadCard : Claim7 := { stood := { row := pagesDeadRow, standIns := [], harness := (true, "19f48768159f6d0a356ed4034c0f11e550f52fbeb0966ad74c8797d6810b7617"), looks := true }, kinds := [], alts := [], laidByText := true, laidKinds := [.data, .data, .data, .sentinel, .sentinel], laidTests := true, laidLooks := .later }
def PagesDeadCardSaid : Prop := Claim7.holds Tryz.pinned (.plain (OpenSpec.ofChange pagesDeadSpec)) pagesDeadCard

/-- THE TIED CARD OF 'pantrylaw9.PagesReuse'. -/
def pagesReuseCard : Claim7 := { stood := { row := pagesReuseRow, standIns := [], harness := (true, "19f48768159f6d0a356ed4034c0f11e550f52fbeb0966ad74c8797d6810b7617"), looks := true }, kinds := [], alts := [], laidByText := true, laidKinds := [.data, .data, .data, .sentinel, .sentinel], laidTests := true, laidLooks := .later }
def PagesReuseCardSaid : Prop := Claim7.holds Tryz.pinned (.plain (OpenSpec.ofChange pagesReuseSpec)) pagesReuseCard

/-- THE TIED CARD OF 'pantrylaw9.PagesOfNothing'. -/
def pagesOfNothingCard : Claim7 := { stood := { row := pagesOfNothingRow, standIns := [], harness := (true, "19f48768159f6d0a356ed4034c0f11e550f52fbeb0966ad74c8797d6810b7617"), looks := true }, kinds := [], alts := [], laidByText := true, laidKinds := [.data, .data, .data, .sentinel, .sentinel], laidTests := true, laidLooks := .later }
def PagesOfNothingCardSaid : Prop := Claim7.holds Tryz.pinned (.plain (OpenSpec.ofChange pagesOfNothingSpec)) pagesOfNothingCard

/-- THE SECOND FORM's CARD OF 'pantrylaw8.JournalPlays'. -/
def journalPlaysUptoCard : Claim7 := { stood := { row := journalPlaysUptoRow, standIns := [], harness := (true, "19f48768159f6d0a356ed4034c0f11e550f52fbeb0966ad74c8797d6810b7617"), looks := true }, kinds := [], alts := [], laidByText := true, laidKinds := [.data, .data, .data, .sentinel, .sentinel], laidTests := true, laidLooks := .later }
def JournalPlaysUptoCardSaid : Prop := Claim7.holds Tryz.pinned (.plain (OpenSpec.upto journalPlaysSpec)) journalPlaysUptoCard

/-- THE SECOND FORM's CARD OF 'pantrylaw8.JournalWhole'. -/
def journalWholeUptoCard : Claim7 := { stood := { row := journalWholeUptoRow, standIns := [], harness := (true, "19f48768159f6d0a356ed4034c0f11e550f52fbeb0966ad74c8797d6810b7617"), looks := true }, kinds := [], alts := [], laidByText := true, laidKinds := [.data, .data, .data, .sentinel, .sentinel], laidTests := true, laidLooks := .later }
def JournalWholeUptoCardSaid : Prop := Claim7.holds Tryz.pinned (.plain (OpenSpec.upto journalWholeSpec)) journalWholeUptoCard

/-- THE SECOND FORM's CARD OF 'pantrylaw8.JournalDead'. -/
def journalDeadUptoCard : Claim7 := { stood := { row := journalDeadUptoRow, standIns := [], harness := (true, "19f48768159f6d0a356ed4034c0f11e550f52fbeb0966ad74c8797d6810b7617"), looks := true }, kinds := [], alts := [], laidByText := true, laidKinds := [.data, .data, .data, .sentinel, .sentinel], laidTests := true, laidLooks := .later }
def JournalDeadUptoCardSaid : Prop := Claim7.holds Tryz.pinned (.plain (OpenSpec.upto journalDeadSpec)) journalDeadUptoCard

/-- THE SECOND FORM's CARD OF 'pantrylaw8.JournalOther'. -/
def journalOtherUptoCard : Claim7 := { stood := { row := journalOtherUptoRow, standIns := [], harness := (true, "19f48768159f6d0a356ed4034c0f11e550f52fbeb0966ad74c8797d6810b7617"), looks := true }, kinds := [], alts := [], laidByText := true, laidKinds := [.data, .data, .data, .sentinel, .sentinel], laidTests := true, laidLooks := .later }
def JournalOtherUptoCardSaid : Prop := Claim7.holds Tryz.pinned (.plain (OpenSpec.upto journalOtherSpec)) journalOtherUptoCard

/-- THE SECOND FORM's CARD OF 'pantrylaw8.JournalOfNothing'. -/
def journalOfNothingUptoCard : Claim7 := { stood := { row := journalOfNothingUptoRow, standIns := [], harness := (true, "19f48768159f6d0a356ed4034c0f11e550f52fbeb0966ad74c8797d6810b7617"), looks := true }, kinds := [], alts := [], laidByText := true, laidKinds := [.data, .data, .data, .sentinel, .sentinel], laidTests := true, laidLooks := .later }
def JournalOfNothingUptoCardSaid : Prop := Claim7.holds Tryz.pinned (.plain (OpenSpec.upto journalOfNothingSpec)) journalOfNothingUptoCard

/-- THE SECOND FORM's CARD OF 'pantrylaw9.PagesPlays'. -/
def pagesPlaysUptoCard : Claim7 := { stood := { row := pagesPlaysUptoRow, standIns := [], harness := (true, "19f48768159f6d0a356ed4034c0f11e550f52fbeb0966ad74c8797d6810b7617"), looks := true }, kinds := [], alts := [], laidByText := true, laidKinds := [.data, .data, .data, .sentinel, .sentinel], laidTests := true, laidLooks := .later }
def PagesPlaysUptoCardSaid : Prop := Claim7.holds Tryz.pinned (.plain (OpenSpec.upto pagesPlaysSpec)) pagesPlaysUptoCard

/-- THE SECOND FORM's CARD OF 'pantrylaw9.PagesWhole'. -/
def pagesWholeUptoCard : Claim7 := { stood := { row := pagesWholeUptoRow, standIns := [], harness := (true, "19f48768159f6d0a356ed4034c0f11e550f52fbeb0966ad74c8797d6810b7617"), looks := true }, kinds := [], alts := [], laidByText := true, laidKinds := [.data, .data, .data, .sentinel, .sentinel], laidTests := true, laidLooks := .later }
def PagesWholeUptoCardSaid : Prop := Claim7.holds Tryz.pinned (.plain (OpenSpec.upto pagesWholeSpec)) pagesWholeUptoCard

/-- THE SECOND FORM's CARD OF 'pantrylaw9.PagesDead'. -/
def pagesDeadUptoCard : Claim7 := { stood := { row := pagesDeadUptoRow, standIns := [], harness := (true, "19f48768159f6d0a356ed4034c0f11e550f52fbeb0966ad74c8797d6810b7617"), looks := true }, kinds := [], alts := [], laidByText := true, laidKinds := [.data, .data, .data, .sentinel, .sentinel], laidTests := true, laidLooks := .later }
def PagesDeadUptoCardSaid : Prop := Claim7.holds Tryz.pinned (.plain (OpenSpec.upto pagesDeadSpec)) pagesDeadUptoCard

/-- THE SECOND FORM's CARD OF 'pantrylaw9.PagesReuse'. -/
def pagesReuseUptoCard : Claim7 := { stood := { row := pagesReuseUptoRow, standIns := [], harness := (true, "19f48768159f6d0a356ed4034c0f11e550f52fbeb0966ad74c8797d6810b7617"), looks := true }, kinds := [], alts := [], laidByText := true, laidKinds := [.data, .data, .data, .sentinel, .sentinel], laidTests := true, laidLooks := .later }
def PagesReuseUptoCardSaid : Prop := Claim7.holds Tryz.pinned (.plain (OpenSpec.upto pagesReuseSpec)) pagesReuseUptoCard

/-- THE SECOND FORM's CARD OF 'pantrylaw9.PagesOfNothing'. -/
def pagesOfNothingUptoCard : Claim7 := { stood := { row := pagesOfNothingUptoRow, standIns := [], harness := (true, "19f48768159f6d0a356ed4034c0f11e550f52fbeb0966ad74c8797d6810b7617"), looks := true }, kinds := [], alts := [], laidByText := true, laidKinds := [.data, .data, .data, .sentinel, .sentinel], laidTests := true, laidLooks := .later }
def PagesOfNothingUptoCardSaid : Prop := Claim7.holds Tryz.pinned (.plain (OpenSpec.upto pagesOfNothingSpec)) pagesOfNothingUptoCard
end Rows
end Go.Proofs.YtebcmicmklpflaaGreatDoor
