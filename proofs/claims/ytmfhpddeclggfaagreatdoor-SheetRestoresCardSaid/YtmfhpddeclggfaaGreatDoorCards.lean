/-
  DERIVED. GIVEN WITH THE SEED: THE CARDS: each row of YtmfhpddeclggfaaGreatDoorRows.lean that lists a variable, with what it lists TIED to the program's text (the seventh form; the later family's looks); each row that meets fmt, with fmt's text TOLD by the authors' own Lean function (tested against real Go, not proved from fmt's source: count such statements apart). THE CARD IS WHAT COUNTS. Prove the row's statement (the work); the ties are given (YtmfhpddeclggfaaGreatDoorTie.lean); close each card by the builder's one call (the guide's Derived/Test/ToyasCard.lean, 'card_holds'). Laid BY PROGRAM, IN A SANDBOX (cutbox-door.mjs). By AI agents, Wed Nov 11 2026. No macro, syntax, notation, axiom, sorry.
-/
import Derived.Test.YtmfhpddeclggfaaGreatDoorRows
import GoSem.ClaimSeven
namespace Go.Proofs.YtmfhpddeclggfaaGreatDoor
namespace Rows

/-- THE TIED CARD OF 'boundstonelaw01.SheetWords'. -/
def sheetWordsCard : Claim7 := { stood := { row := sheetWordsRow, standIns := [], harness := (true, "579cf3a5525c14e527e2965c6884570c30245bf59aac7b721ab1a1de346900bd"), looks := true }, kinds := [], alts := [], laidByText := true, laidKinds := [.data, .data, .data, .data, .sentinel, .sentinel, .pinned], laidTests := true, laidLooks := .later }
def SheetWordsCardSaid : Prop := Claim7.holds Tryz.pinned (.plain (OpenSpec.ofChange sheetWordsSpec)) sheetWordsCard

/-- THE TIED CARD OF 'boundstonelaw01.SheetWrites'. -/
def sheetWritesCard : Claim7 := { stood := { row := sheetWritesRow, standIns := [], harness := (true, "579cf3a5525c14e527e2965c6884570c30245bf59aac7b721ab1a1de346900bd"), looks := true }, kinds := [], alts := [], laidByText := true, laidKinds := [.data, .data, .data, .data, .sentinel, .sentinel, .pinned], laidTests := true, laidLooks := .later }
def SheetWritesCardSaid : Prop := Claim7.holds Tryz.pinned (.plain (OpenSpec.ofChange sheetWritesSpec)) sheetWritesCard

/-- THE TIED CARD OF 'boundstonelaw01.SheetSheets'. -/
def sheetSheetsCard : Claim7 := { stood := { row := sheetSheetsRow, standIns := [], harness := (true, "579cf3a5525c14e527e2965c6884570c30245bf59aac7b721ab1a1de346900bd"), looks := true }, kinds := [], alts := [], laidByText := true, laidKinds := [.data, .data, .data, .data, .sentinel, .sentinel, .pinned], laidTests := true, laidLooks := .later }
def SheetSheetsCardSaid : Prop := Claim7.holds Tryz.pinned (.plain (OpenSpec.ofChange sheetSheetsSpec)) sheetSheetsCard

/-- THE TIED CARD OF 'boundstonelaw01.SheetCuts'. -/
def sheetCutsCard : Claim7 := { stood := { row := sheetCutsRow, standIns := [], harness := (true, "579cf3a5525c14e527e2965c6884570c30245bf59aac7b721ab1a1de346900bd"), looks := true }, kinds := [], alts := [], laidByText := true, laidKinds := [.data, .data, .data, .data, .sentinel, .sentinel, .pinned], laidTests := true, laidLooks := .later }
def SheetCutsCardSaid : Prop := Claim7.holds Tryz.pinned (.plain (OpenSpec.ofChange sheetCutsSpec)) sheetCutsCard

/-- THE TIED CARD OF 'boundstonelaw01.SheetHarms'. -/
def sheetHarmsCard : Claim7 := { stood := { row := sheetHarmsRow, standIns := [], harness := (true, "579cf3a5525c14e527e2965c6884570c30245bf59aac7b721ab1a1de346900bd"), looks := true }, kinds := [], alts := [], laidByText := true, laidKinds := [.data, .data, .data, .data, .sentinel, .sentinel, .pinned], laidTests := true, laidLooks := .later }
def SheetHarmsCardSaid : Prop := Claim7.holds Tryz.pinned (.plain (OpenSpec.ofChange sheetHarmsSpec)) sheetHarmsCard

/-- THE TIED CARD OF 'boundstonelaw01.SheetOverlays'. -/
def sheetOverlaysCard : Claim7 := { stood := { row := sheetOverlaysRow, standIns := [], harness := (true, "579cf3a5525c14e527e2965c6884570c30245bf59aac7b721ab1a1de346900bd"), looks := true }, kinds := [], alts := [], laidByText := true, laidKinds := [.data, .data, .data, .data, .sentinel, .sentinel, .pinned], laidTests := true, laidLooks := .later }
def SheetOverlaysCardSaid : Prop := Claim7.holds Tryz.pinned (.plain (OpenSpec.ofChange sheetOverlaysSpec)) sheetOverlaysCard

/-- THE TIED CARD OF 'boundstonelaw01.SheetCollates'. -/
def sheetCollatesCard : Claim7 := { stood := { row := sheetCollatesRow, standIns := [], harness := (true, "579cf3a5525c14e527e2965c6884570c30245bf59aac7b721ab1a1de346900bd"), looks := true }, kinds := [], alts := [], laidByText := true, laidKinds := [.data, .data, .data, .data, .sentinel, .sentinel, .pinned], laidTests := true, laidLooks := .later }
def SheetCollatesCardSaid : Prop := Claim7.holds Tryz.pinned (.plain (OpenSpec.ofChange sheetCollatesSpec)) sheetCollatesCard

/-- THE TIED CARD OF 'boundstonelaw01.SheetFinishes'. -/
def sheetFinishesCard : Claim7 := { stood := { row := sheetFinishesRow, standIns := [], harness := (true, "579cf3a5525c14e527e2965c6884570c30245bf59aac7b721ab1a1de346900bd"), looks := true }, kinds := [], alts := [], laidByText := true, laidKinds := [.data, .data, .data, .data, .sentinel, .sentinel, .pinned], laidTests := true, laidLooks := .later }
def SheetFinishesCardSaid : Prop := Claim7.holds Tryz.pinned (.plain (OpenSpec.ofChange sheetFinishesSpec)) sheetFinishesCard

/-- THE TIED CARD OF 'boundstonelaw01.SheetChooses'. -/
def sheetChoosesCard : Claim7 := { stood := { row := sheetChoosesRow, standIns := [], harness := (true, "579cf3a5525c14e527e2965c6884570c30245bf59aac7b721ab1a1de346900bd"), looks := true }, kinds := [], alts := [], laidByText := true, laidKinds := [.data, .data, .data, .data, .sentinel, .sentinel, .pinned], laidTests := true, laidLooks := .later }
def SheetChoosesCardSaid : Prop := Claim7.holds Tryz.pinned (.plain (OpenSpec.ofChange sheetChoosesSpec)) sheetChoosesCard

/-- THE TIED CARD OF 'boundstonelaw01.SheetReadsBack'. -/
def sheetReadsBackCard : Claim7 := { stood := { row := sheetReadsBackRow, standIns := [], harness := (true, "579cf3a5525c14e527e2965c6884570c30245bf59aac7b721ab1a1de346900bd"), looks := true }, kinds := [], alts := [], laidByText := true, laidKinds := [.data, .data, .data, .data, .sentinel, .sentinel, .pinned], laidTests := true, laidLooks := .later }
def SheetReadsBackCardSaid : Prop := Claim7.holds Tryz.pinned (.plain (OpenSpec.ofChange sheetReadsBackSpec)) sheetReadsBackCard

/-- THE TIED CARD OF 'boundstonelaw01.SheetOneMistake'. -/
def sheetOneMistakeCard : Claim7 := { stood := { row := sheetOneMistakeRow, standIns := [], harness := (true, "579cf3a5525c14e527e2965c6884570c30245bf59aac7b721ab1a1de346900bd"), looks := true }, kinds := [], alts := [], laidByText := true, laidKinds := [.data, .data, .data, .data, .sentinel, .sentinel, .pinned], laidTests := true, laidLooks := .later }
def SheetOneMistakeCardSaid : Prop := Claim7.holds Tryz.pinned (.plain (OpenSpec.ofChange sheetOneMistakeSpec)) sheetOneMistakeCard

/-- THE TIED CARD OF 'boundstonelaw01.SheetNothingElse'. -/
def sheetNothingElseCard : Claim7 := { stood := { row := sheetNothingElseRow, standIns := [], harness := (true, "579cf3a5525c14e527e2965c6884570c30245bf59aac7b721ab1a1de346900bd"), looks := true }, kinds := [], alts := [], laidByText := true, laidKinds := [.data, .data, .data, .data, .sentinel, .sentinel, .pinned], laidTests := true, laidLooks := .later }
def SheetNothingElseCardSaid : Prop := Claim7.holds Tryz.pinned (.plain (OpenSpec.ofChange sheetNothingElseSpec)) sheetNothingElseCard

/-- THE TIED CARD OF 'boundstonelaw01.SheetRestores'. -/
def sheetRestoresCard : Claim7 := { stood := { row := sheetRestoresRow, standIns := [], harness := (true, "579cf3a5525c14e527e2965c6884570c30245bf59aac7b721ab1a1de346900bd"), looks := true }, kinds := [], alts := [], laidByText := true, laidKinds := [.data, .data, .data, .data, .sentinel, .sentinel, .pinned], laidTests := true, laidLooks := .later }
def SheetRestoresCardSaid : Prop := Claim7.holds Tryz.pinned (.plain (OpenSpec.ofChange sheetRestoresSpec)) sheetRestoresCard

/-- THE TIED CARD OF 'boundstonelaw01.SheetOrder'. -/
def sheetOrderCard : Claim7 := { stood := { row := sheetOrderRow, standIns := [], harness := (true, "579cf3a5525c14e527e2965c6884570c30245bf59aac7b721ab1a1de346900bd"), looks := true }, kinds := [], alts := [], laidByText := true, laidKinds := [.data, .data, .data, .data, .sentinel, .sentinel, .pinned], laidTests := true, laidLooks := .later }
def SheetOrderCardSaid : Prop := Claim7.holds Tryz.pinned (.plain (OpenSpec.ofChange sheetOrderSpec)) sheetOrderCard

/-- THE TIED CARD OF 'boundstonelaw01.SheetFairs'. -/
def sheetFairsCard : Claim7 := { stood := { row := sheetFairsRow, standIns := [], harness := (true, "579cf3a5525c14e527e2965c6884570c30245bf59aac7b721ab1a1de346900bd"), looks := true }, kinds := [], alts := [], laidByText := true, laidKinds := [.data, .data, .data, .data, .sentinel, .sentinel, .pinned], laidTests := true, laidLooks := .later }
def SheetFairsCardSaid : Prop := Claim7.holds Tryz.pinned (.plain (OpenSpec.ofChange sheetFairsSpec)) sheetFairsCard

/-- THE TIED CARD OF 'boundstonelaw01.SheetEnough'. -/
def sheetEnoughCard : Claim7 := { stood := { row := sheetEnoughRow, standIns := [], harness := (true, "579cf3a5525c14e527e2965c6884570c30245bf59aac7b721ab1a1de346900bd"), looks := true }, kinds := [], alts := [], laidByText := true, laidKinds := [.data, .data, .data, .data, .sentinel, .sentinel, .pinned], laidTests := true, laidLooks := .later }
def SheetEnoughCardSaid : Prop := Claim7.holds Tryz.pinned (.plain (OpenSpec.ofChange sheetEnoughSpec)) sheetEnoughCard

/-- THE SECOND FORM's CARD OF 'boundstonelaw01.SheetWords'. -/
def sheetWordsUptoCard : Claim7 := { stood := { row := sheetWordsUptoRow, standIns := [], harness := (true, "579cf3a5525c14e527e2965c6884570c30245bf59aac7b721ab1a1de346900bd"), looks := true }, kinds := [], alts := [], laidByText := true, laidKinds := [.data, .data, .data, .data, .sentinel, .sentinel, .pinned], laidTests := true, laidLooks := .later }
def SheetWordsUptoCardSaid : Prop := Claim7.holds Tryz.pinned (.plain (OpenSpec.upto sheetWordsSpec)) sheetWordsUptoCard

/-- THE SECOND FORM's CARD OF 'boundstonelaw01.SheetWrites'. -/
def sheetWritesUptoCard : Claim7 := { stood := { row := sheetWritesUptoRow, standIns := [], harness := (true, "579cf3a5525c14e527e2965c6884570c30245bf59aac7b721ab1a1de346900bd"), looks := true }, kinds := [], alts := [], laidByText := true, laidKinds := [.data, .data, .data, .data, .sentinel, .sentinel, .pinned], laidTests := true, laidLooks := .later }
def SheetWritesUptoCardSaid : Prop := Claim7.holds Tryz.pinned (.plain (OpenSpec.upto sheetWritesSpec)) sheetWritesUptoCard

/-- THE SECOND FORM's CARD OF 'boundstonelaw01.SheetSheets'. -/
def sheetSheetsUptoCard : Claim7 := { stood := { row := sheetSheetsUptoRow, standIns := [], harness := (true, "579cf3a5525c14e527e2965c6884570c30245bf59aac7b721ab1a1de346900bd"), looks := true }, kinds := [], alts := [], laidByText := true, laidKinds := [.data, .data, .data, .data, .sentinel, .sentinel, .pinned], laidTests := true, laidLooks := .later }
def SheetSheetsUptoCardSaid : Prop := Claim7.holds Tryz.pinned (.plain (OpenSpec.upto sheetSheetsSpec)) sheetSheetsUptoCard

/-- THE SECOND FORM's CARD OF 'boundstonelaw01.SheetCuts'. -/
def sheetCutsUptoCard : Claim7 := { stood := { row := sheetCutsUptoRow, standIns := [], harness := (true, "579cf3a5525c14e527e2965c6884570c30245bf59aac7b721ab1a1de346900bd"), looks := true }, kinds := [], alts := [], laidByText := true, laidKinds := [.data, .data, .data, .data, .sentinel, .sentinel, .pinned], laidTests := true, laidLooks := .later }
def SheetCutsUptoCardSaid : Prop := Claim7.holds Tryz.pinned (.plain (OpenSpec.upto sheetCutsSpec)) sheetCutsUptoCard

/-- THE SECOND FORM's CARD OF 'boundstonelaw01.SheetHarms'. -/
def sheetHarmsUptoCard : Claim7 := { stood := { row := sheetHarmsUptoRow, standIns := [], harness := (true, "579cf3a5525c14e527e2965c6884570c30245bf59aac7b721ab1a1de346900bd"), looks := true }, kinds := [], alts := [], laidByText := true, laidKinds := [.data, .data, .data, .data, .sentinel, .sentinel, .pinned], laidTests := true, laidLooks := .later }
def SheetHarmsUptoCardSaid : Prop := Claim7.holds Tryz.pinned (.plain (OpenSpec.upto sheetHarmsSpec)) sheetHarmsUptoCard

/-- THE SECOND FORM's CARD OF 'boundstonelaw01.SheetOverlays'. -/
def sheetOverlaysUptoCard : Claim7 := { stood := { row := sheetOverlaysUptoRow, standIns := [], harness := (true, "579cf3a5525c14e527e2965c6884570c30245bf59aac7b721ab1a1de346900bd"), looks := true }, kinds := [], alts := [], laidByText := true, laidKinds := [.data, .data, .data, .data, .sentinel, .sentinel, .pinned], laidTests := true, laidLooks := .later }
def SheetOverlaysUptoCardSaid : Prop := Claim7.holds Tryz.pinned (.plain (OpenSpec.upto sheetOverlaysSpec)) sheetOverlaysUptoCard

/-- THE SECOND FORM's CARD OF 'boundstonelaw01.SheetCollates'. -/
def sheetCollatesUptoCard : Claim7 := { stood := { row := sheetCollatesUptoRow, standIns := [], harness := (true, "579cf3a5525c14e527e2965c6884570c30245bf59aac7b721ab1a1de346900bd"), looks := true }, kinds := [], alts := [], laidByText := true, laidKinds := [.data, .data, .data, .data, .sentinel, .sentinel, .pinned], laidTests := true, laidLooks := .later }
def SheetCollatesUptoCardSaid : Prop := Claim7.holds Tryz.pinned (.plain (OpenSpec.upto sheetCollatesSpec)) sheetCollatesUptoCard

/-- THE SECOND FORM's CARD OF 'boundstonelaw01.SheetFinishes'. -/
def sheetFinishesUptoCard : Claim7 := { stood := { row := sheetFinishesUptoRow, standIns := [], harness := (true, "579cf3a5525c14e527e2965c6884570c30245bf59aac7b721ab1a1de346900bd"), looks := true }, kinds := [], alts := [], laidByText := true, laidKinds := [.data, .data, .data, .data, .sentinel, .sentinel, .pinned], laidTests := true, laidLooks := .later }
def SheetFinishesUptoCardSaid : Prop := Claim7.holds Tryz.pinned (.plain (OpenSpec.upto sheetFinishesSpec)) sheetFinishesUptoCard

/-- THE SECOND FORM's CARD OF 'boundstonelaw01.SheetChooses'. -/
def sheetChoosesUptoCard : Claim7 := { stood := { row := sheetChoosesUptoRow, standIns := [], harness := (true, "579cf3a5525c14e527e2965c6884570c30245bf59aac7b721ab1a1de346900bd"), looks := true }, kinds := [], alts := [], laidByText := true, laidKinds := [.data, .data, .data, .data, .sentinel, .sentinel, .pinned], laidTests := true, laidLooks := .later }
def SheetChoosesUptoCardSaid : Prop := Claim7.holds Tryz.pinned (.plain (OpenSpec.upto sheetChoosesSpec)) sheetChoosesUptoCard

/-- THE SECOND FORM's CARD OF 'boundstonelaw01.SheetReadsBack'. -/
def sheetReadsBackUptoCard : Claim7 := { stood := { row := sheetReadsBackUptoRow, standIns := [], harness := (true, "579cf3a5525c14e527e2965c6884570c30245bf59aac7b721ab1a1de346900bd"), looks := true }, kinds := [], alts := [], laidByText := true, laidKinds := [.data, .data, .data, .data, .sentinel, .sentinel, .pinned], laidTests := true, laidLooks := .later }
def SheetReadsBackUptoCardSaid : Prop := Claim7.holds Tryz.pinned (.plain (OpenSpec.upto sheetReadsBackSpec)) sheetReadsBackUptoCard

/-- THE SECOND FORM's CARD OF 'boundstonelaw01.SheetOneMistake'. -/
def sheetOneMistakeUptoCard : Claim7 := { stood := { row := sheetOneMistakeUptoRow, standIns := [], harness := (true, "579cf3a5525c14e527e2965c6884570c30245bf59aac7b721ab1a1de346900bd"), looks := true }, kinds := [], alts := [], laidByText := true, laidKinds := [.data, .data, .data, .data, .sentinel, .sentinel, .pinned], laidTests := true, laidLooks := .later }
def SheetOneMistakeUptoCardSaid : Prop := Claim7.holds Tryz.pinned (.plain (OpenSpec.upto sheetOneMistakeSpec)) sheetOneMistakeUptoCard

/-- THE SECOND FORM's CARD OF 'boundstonelaw01.SheetNothingElse'. -/
def sheetNothingElseUptoCard : Claim7 := { stood := { row := sheetNothingElseUptoRow, standIns := [], harness := (true, "579cf3a5525c14e527e2965c6884570c30245bf59aac7b721ab1a1de346900bd"), looks := true }, kinds := [], alts := [], laidByText := true, laidKinds := [.data, .data, .data, .data, .sentinel, .sentinel, .pinned], laidTests := true, laidLooks := .later }
def SheetNothingElseUptoCardSaid : Prop := Claim7.holds Tryz.pinned (.plain (OpenSpec.upto sheetNothingElseSpec)) sheetNothingElseUptoCard

/-- THE SECOND FORM's CARD OF 'boundstonelaw01.SheetRestores'. -/
def sheetRestoresUptoCard : Claim7 := { stood := { row := sheetRestoresUptoRow, standIns := [], harness := (true, "579cf3a5525c14e527e2965c6884570c30245bf59aac7b721ab1a1de346900bd"), looks := true }, kinds := [], alts := [], laidByText := true, laidKinds := [.data, .data, .data, .data, .sentinel, .sentinel, .pinned], laidTests := true, laidLooks := .later }
def SheetRestoresUptoCardSaid : Prop := Claim7.holds Tryz.pinned (.plain (OpenSpec.upto sheetRestoresSpec)) sheetRestoresUptoCard

/-- THE SECOND FORM's CARD OF 'boundstonelaw01.SheetOrder'. -/
def sheetOrderUptoCard : Claim7 := { stood := { row := sheetOrderUptoRow, standIns := [], harness := (true, "579cf3a5525c14e527e2965c6884570c30245bf59aac7b721ab1a1de346900bd"), looks := true }, kinds := [], alts := [], laidByText := true, laidKinds := [.data, .data, .data, .data, .sentinel, .sentinel, .pinned], laidTests := true, laidLooks := .later }
def SheetOrderUptoCardSaid : Prop := Claim7.holds Tryz.pinned (.plain (OpenSpec.upto sheetOrderSpec)) sheetOrderUptoCard

/-- THE SECOND FORM's CARD OF 'boundstonelaw01.SheetFairs'. -/
def sheetFairsUptoCard : Claim7 := { stood := { row := sheetFairsUptoRow, standIns := [], harness := (true, "579cf3a5525c14e527e2965c6884570c30245bf59aac7b721ab1a1de346900bd"), looks := true }, kinds := [], alts := [], laidByText := true, laidKinds := [.data, .data, .data, .data, .sentinel, .sentinel, .pinned], laidTests := true, laidLooks := .later }
def SheetFairsUptoCardSaid : Prop := Claim7.holds Tryz.pinned (.plain (OpenSpec.upto sheetFairsSpec)) sheetFairsUptoCard

/-- THE SECOND FORM's CARD OF 'boundstonelaw01.SheetEnough'. -/
def sheetEnoughUptoCard : Claim7 := { stood := { row := sheetEnoughUptoRow, standIns := [], harness := (true, "579cf3a5525c14e527e2965c6884570c30245bf59aac7b721ab1a1de346900bd"), looks := true }, kinds := [], alts := [], laidByText := true, laidKinds := [.data, .data, .data, .data, .sentinel, .sentinel, .pinned], laidTests := true, laidLooks := .later }
def SheetEnoughUptoCardSaid : Prop := Claim7.holds Tryz.pinned (.plain (OpenSpec.upto sheetEnoughSpec)) sheetEnoughUptoCard
end Rows
end Go.Proofs.YtmfhpddeclggfaaGreatDoor
