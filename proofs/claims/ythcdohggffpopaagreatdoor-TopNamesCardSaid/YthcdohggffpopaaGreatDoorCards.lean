/-
  DERIVED. GIVEN WITH THE SEED: THE CARDS: each row of YthcdohggffpopaaGreatDoorRows.lean that lists a variable, with what it lists TIED to the program's text (the seventh form; the later family's looks); each row that meets fmt, with fmt's text TOLD by the authors' own Lean function (tested against real Go, not proved from fmt's source: count such statements apart). THE CARD IS WHAT COUNTS. Prove the row's statement (the work); the ties are given (YthcdohggffpopaaGreatDoorTie.lean); close each card by the builder's one call (the guide's Derived/Test/ToyasCard.lean, 'card_holds'). Laid BY PROGRAM, IN A SANDBOX (cutbox-door.mjs). By AI agents, Wed Nov 11 2026. No macro, syntax, notation, axiom, sorry.
-/
import Derived.Test.YthcdohggffpopaaGreatDoorRows
import GoSem.ClaimSeven
namespace Go.Proofs.YthcdohggffpopaaGreatDoor
namespace Rows

/-- THE TIED CARD OF 'calliperlaw09.NamesCheck'. -/
def namesCheckCard : Claim7 := { stood := { row := namesCheckRow, standIns := [], harness := (true, "a65d0251e58ef33a30353fbaaa555c143315ad6ac0a5038d5e774451a47c7c7c"), looks := true }, kinds := [], alts := [], laidByText := true, laidKinds := [.data, .data, .data, .data, .sentinel, .sentinel, .data, .data, .data, .pinned], laidTests := true, laidLooks := .later }
def NamesCheckCardSaid : Prop := Claim7.holds Tryz.pinned (.plain (OpenSpec.ofChange namesCheckSpec)) namesCheckCard

/-- THE TIED CARD OF 'calliperlaw09.NamesFind'. -/
def namesFindCard : Claim7 := { stood := { row := namesFindRow, standIns := [], harness := (true, "a65d0251e58ef33a30353fbaaa555c143315ad6ac0a5038d5e774451a47c7c7c"), looks := true }, kinds := [], alts := [], laidByText := true, laidKinds := [.data, .data, .data, .data, .sentinel, .sentinel, .data, .data, .data, .pinned], laidTests := true, laidLooks := .later }
def NamesFindCardSaid : Prop := Claim7.holds Tryz.pinned (.plain (OpenSpec.ofChange namesFindSpec)) namesFindCard

/-- THE TIED CARD OF 'calliperlaw09.NamesSwap'. -/
def namesSwapCard : Claim7 := { stood := { row := namesSwapRow, standIns := [], harness := (true, "a65d0251e58ef33a30353fbaaa555c143315ad6ac0a5038d5e774451a47c7c7c"), looks := true }, kinds := [], alts := [], laidByText := true, laidKinds := [.data, .data, .data, .data, .sentinel, .sentinel, .data, .data, .data, .pinned], laidTests := true, laidLooks := .later }
def NamesSwapCardSaid : Prop := Claim7.holds Tryz.pinned (.plain (OpenSpec.ofChange namesSwapSpec)) namesSwapCard

/-- THE TIED CARD OF 'calliperlaw08.ShowTidy'. -/
def showTidyCard : Claim7 := { stood := { row := showTidyRow, standIns := [], harness := (true, "a65d0251e58ef33a30353fbaaa555c143315ad6ac0a5038d5e774451a47c7c7c"), looks := true }, kinds := [], alts := [], laidByText := true, laidKinds := [.data, .data, .data, .data, .sentinel, .sentinel, .data, .data, .data, .pinned], laidTests := true, laidLooks := .later }
def ShowTidyCardSaid : Prop := Claim7.holds Tryz.pinned (.plain (OpenSpec.ofChange showTidySpec)) showTidyCard

/-- THE TIED CARD OF 'calliperlaw08.ShowParts'. -/
def showPartsCard : Claim7 := { stood := { row := showPartsRow, standIns := [], harness := (true, "a65d0251e58ef33a30353fbaaa555c143315ad6ac0a5038d5e774451a47c7c7c"), looks := true }, kinds := [], alts := [], laidByText := true, laidKinds := [.data, .data, .data, .data, .sentinel, .sentinel, .data, .data, .data, .pinned], laidTests := true, laidLooks := .later }
def ShowPartsCardSaid : Prop := Claim7.holds Tryz.pinned (.plain (OpenSpec.ofChange showPartsSpec)) showPartsCard

/-- THE TIED CARD OF 'calliperlaw08.ShowBack'. -/
def showBackCard : Claim7 := { stood := { row := showBackRow, standIns := [], harness := (true, "a65d0251e58ef33a30353fbaaa555c143315ad6ac0a5038d5e774451a47c7c7c"), looks := true }, kinds := [], alts := [], laidByText := true, laidKinds := [.data, .data, .data, .data, .sentinel, .sentinel, .data, .data, .data, .pinned], laidTests := true, laidLooks := .later }
def ShowBackCardSaid : Prop := Claim7.holds Tryz.pinned (.plain (OpenSpec.ofChange showBackSpec)) showBackCard

/-- THE TIED CARD OF 'calliperlaw08.ShowBent'. -/
def showBentCard : Claim7 := { stood := { row := showBentRow, standIns := [], harness := (true, "a65d0251e58ef33a30353fbaaa555c143315ad6ac0a5038d5e774451a47c7c7c"), looks := true }, kinds := [], alts := [], laidByText := true, laidKinds := [.data, .data, .data, .data, .sentinel, .sentinel, .data, .data, .data, .pinned], laidTests := true, laidLooks := .later }
def ShowBentCardSaid : Prop := Claim7.holds Tryz.pinned (.plain (OpenSpec.ofChange showBentSpec)) showBentCard

/-- THE TIED CARD OF 'calliperlaw08.ShowParens'. -/
def showParensCard : Claim7 := { stood := { row := showParensRow, standIns := [], harness := (true, "a65d0251e58ef33a30353fbaaa555c143315ad6ac0a5038d5e774451a47c7c7c"), looks := true }, kinds := [], alts := [], laidByText := true, laidKinds := [.data, .data, .data, .data, .sentinel, .sentinel, .data, .data, .data, .pinned], laidTests := true, laidLooks := .later }
def ShowParensCardSaid : Prop := Claim7.holds Tryz.pinned (.plain (OpenSpec.ofChange showParensSpec)) showParensCard

/-- THE TIED CARD OF 'callipertop.TopBlanks'. -/
def topBlanksCard : Claim7 := { stood := { row := topBlanksRow, standIns := [], harness := (true, "a65d0251e58ef33a30353fbaaa555c143315ad6ac0a5038d5e774451a47c7c7c"), looks := true }, kinds := [], alts := [], laidByText := true, laidKinds := [.data, .data, .data, .data, .sentinel, .sentinel, .data, .data, .data, .pinned], laidTests := true, laidLooks := .later }
def TopBlanksCardSaid : Prop := Claim7.holds Tryz.pinned (.plain (OpenSpec.ofChange topBlanksSpec)) topBlanksCard

/-- THE TIED CARD OF 'callipertop.TopNames'. -/
def topNamesCard : Claim7 := { stood := { row := topNamesRow, standIns := [], harness := (true, "a65d0251e58ef33a30353fbaaa555c143315ad6ac0a5038d5e774451a47c7c7c"), looks := true }, kinds := [], alts := [], laidByText := true, laidKinds := [.data, .data, .data, .data, .sentinel, .sentinel, .data, .data, .data, .pinned], laidTests := true, laidLooks := .later }
def TopNamesCardSaid : Prop := Claim7.holds Tryz.pinned (.plain (OpenSpec.ofChange topNamesSpec)) topNamesCard

/-- THE TIED CARD OF 'calliperlaw07.ParseReads'. -/
def parseReadsCard : Claim7 := { stood := { row := parseReadsRow, standIns := [], harness := (true, "a65d0251e58ef33a30353fbaaa555c143315ad6ac0a5038d5e774451a47c7c7c"), looks := true }, kinds := [], alts := [], laidByText := true, laidKinds := [.data, .data, .data, .data, .sentinel, .sentinel, .data, .data, .data, .pinned], laidTests := true, laidLooks := .later }
def ParseReadsCardSaid : Prop := Claim7.holds Tryz.pinned (.plain (OpenSpec.ofChange parseReadsSpec)) parseReadsCard

/-- THE SECOND FORM's CARD OF 'calliperlaw09.NamesCheck'. -/
def namesCheckUptoCard : Claim7 := { stood := { row := namesCheckUptoRow, standIns := [], harness := (true, "a65d0251e58ef33a30353fbaaa555c143315ad6ac0a5038d5e774451a47c7c7c"), looks := true }, kinds := [], alts := [], laidByText := true, laidKinds := [.data, .data, .data, .data, .sentinel, .sentinel, .data, .data, .data, .pinned], laidTests := true, laidLooks := .later }
def NamesCheckUptoCardSaid : Prop := Claim7.holds Tryz.pinned (.plain (OpenSpec.upto namesCheckSpec)) namesCheckUptoCard

/-- THE SECOND FORM's CARD OF 'calliperlaw09.NamesFind'. -/
def namesFindUptoCard : Claim7 := { stood := { row := namesFindUptoRow, standIns := [], harness := (true, "a65d0251e58ef33a30353fbaaa555c143315ad6ac0a5038d5e774451a47c7c7c"), looks := true }, kinds := [], alts := [], laidByText := true, laidKinds := [.data, .data, .data, .data, .sentinel, .sentinel, .data, .data, .data, .pinned], laidTests := true, laidLooks := .later }
def NamesFindUptoCardSaid : Prop := Claim7.holds Tryz.pinned (.plain (OpenSpec.upto namesFindSpec)) namesFindUptoCard

/-- THE SECOND FORM's CARD OF 'calliperlaw09.NamesSwap'. -/
def namesSwapUptoCard : Claim7 := { stood := { row := namesSwapUptoRow, standIns := [], harness := (true, "a65d0251e58ef33a30353fbaaa555c143315ad6ac0a5038d5e774451a47c7c7c"), looks := true }, kinds := [], alts := [], laidByText := true, laidKinds := [.data, .data, .data, .data, .sentinel, .sentinel, .data, .data, .data, .pinned], laidTests := true, laidLooks := .later }
def NamesSwapUptoCardSaid : Prop := Claim7.holds Tryz.pinned (.plain (OpenSpec.upto namesSwapSpec)) namesSwapUptoCard

/-- THE SECOND FORM's CARD OF 'calliperlaw08.ShowTidy'. -/
def showTidyUptoCard : Claim7 := { stood := { row := showTidyUptoRow, standIns := [], harness := (true, "a65d0251e58ef33a30353fbaaa555c143315ad6ac0a5038d5e774451a47c7c7c"), looks := true }, kinds := [], alts := [], laidByText := true, laidKinds := [.data, .data, .data, .data, .sentinel, .sentinel, .data, .data, .data, .pinned], laidTests := true, laidLooks := .later }
def ShowTidyUptoCardSaid : Prop := Claim7.holds Tryz.pinned (.plain (OpenSpec.upto showTidySpec)) showTidyUptoCard

/-- THE SECOND FORM's CARD OF 'calliperlaw08.ShowParts'. -/
def showPartsUptoCard : Claim7 := { stood := { row := showPartsUptoRow, standIns := [], harness := (true, "a65d0251e58ef33a30353fbaaa555c143315ad6ac0a5038d5e774451a47c7c7c"), looks := true }, kinds := [], alts := [], laidByText := true, laidKinds := [.data, .data, .data, .data, .sentinel, .sentinel, .data, .data, .data, .pinned], laidTests := true, laidLooks := .later }
def ShowPartsUptoCardSaid : Prop := Claim7.holds Tryz.pinned (.plain (OpenSpec.upto showPartsSpec)) showPartsUptoCard

/-- THE SECOND FORM's CARD OF 'calliperlaw08.ShowBack'. -/
def showBackUptoCard : Claim7 := { stood := { row := showBackUptoRow, standIns := [], harness := (true, "a65d0251e58ef33a30353fbaaa555c143315ad6ac0a5038d5e774451a47c7c7c"), looks := true }, kinds := [], alts := [], laidByText := true, laidKinds := [.data, .data, .data, .data, .sentinel, .sentinel, .data, .data, .data, .pinned], laidTests := true, laidLooks := .later }
def ShowBackUptoCardSaid : Prop := Claim7.holds Tryz.pinned (.plain (OpenSpec.upto showBackSpec)) showBackUptoCard

/-- THE SECOND FORM's CARD OF 'calliperlaw08.ShowBent'. -/
def showBentUptoCard : Claim7 := { stood := { row := showBentUptoRow, standIns := [], harness := (true, "a65d0251e58ef33a30353fbaaa555c143315ad6ac0a5038d5e774451a47c7c7c"), looks := true }, kinds := [], alts := [], laidByText := true, laidKinds := [.data, .data, .data, .data, .sentinel, .sentinel, .data, .data, .data, .pinned], laidTests := true, laidLooks := .later }
def ShowBentUptoCardSaid : Prop := Claim7.holds Tryz.pinned (.plain (OpenSpec.upto showBentSpec)) showBentUptoCard

/-- THE SECOND FORM's CARD OF 'calliperlaw08.ShowParens'. -/
def showParensUptoCard : Claim7 := { stood := { row := showParensUptoRow, standIns := [], harness := (true, "a65d0251e58ef33a30353fbaaa555c143315ad6ac0a5038d5e774451a47c7c7c"), looks := true }, kinds := [], alts := [], laidByText := true, laidKinds := [.data, .data, .data, .data, .sentinel, .sentinel, .data, .data, .data, .pinned], laidTests := true, laidLooks := .later }
def ShowParensUptoCardSaid : Prop := Claim7.holds Tryz.pinned (.plain (OpenSpec.upto showParensSpec)) showParensUptoCard

/-- THE SECOND FORM's CARD OF 'callipertop.TopBlanks'. -/
def topBlanksUptoCard : Claim7 := { stood := { row := topBlanksUptoRow, standIns := [], harness := (true, "a65d0251e58ef33a30353fbaaa555c143315ad6ac0a5038d5e774451a47c7c7c"), looks := true }, kinds := [], alts := [], laidByText := true, laidKinds := [.data, .data, .data, .data, .sentinel, .sentinel, .data, .data, .data, .pinned], laidTests := true, laidLooks := .later }
def TopBlanksUptoCardSaid : Prop := Claim7.holds Tryz.pinned (.plain (OpenSpec.upto topBlanksSpec)) topBlanksUptoCard

/-- THE SECOND FORM's CARD OF 'callipertop.TopNames'. -/
def topNamesUptoCard : Claim7 := { stood := { row := topNamesUptoRow, standIns := [], harness := (true, "a65d0251e58ef33a30353fbaaa555c143315ad6ac0a5038d5e774451a47c7c7c"), looks := true }, kinds := [], alts := [], laidByText := true, laidKinds := [.data, .data, .data, .data, .sentinel, .sentinel, .data, .data, .data, .pinned], laidTests := true, laidLooks := .later }
def TopNamesUptoCardSaid : Prop := Claim7.holds Tryz.pinned (.plain (OpenSpec.upto topNamesSpec)) topNamesUptoCard

/-- THE SECOND FORM's CARD OF 'calliperlaw07.ParseReads'. -/
def parseReadsUptoCard : Claim7 := { stood := { row := parseReadsUptoRow, standIns := [], harness := (true, "a65d0251e58ef33a30353fbaaa555c143315ad6ac0a5038d5e774451a47c7c7c"), looks := true }, kinds := [], alts := [], laidByText := true, laidKinds := [.data, .data, .data, .data, .sentinel, .sentinel, .data, .data, .data, .pinned], laidTests := true, laidLooks := .later }
def ParseReadsUptoCardSaid : Prop := Claim7.holds Tryz.pinned (.plain (OpenSpec.upto parseReadsSpec)) parseReadsUptoCard
end Rows
end Go.Proofs.YthcdohggffpopaaGreatDoor
