/-
  DERIVED. GIVEN WITH THE SEED: THE CARDS: each row of YtceahffmenbibaaGreatDoorRows.lean that lists a variable, with what it lists TIED to the program's text (the seventh form; the later family's looks); each row that meets fmt, with fmt's text TOLD by the authors' own Lean function (tested against real Go, not proved from fmt's source: count such statements apart). THE CARD IS WHAT COUNTS. Prove the row's statement (the work); the ties are given (YtceahffmenbibaaGreatDoorTie.lean); close each card by the builder's one call (the guide's Derived/Test/ToyasCard.lean, 'card_holds'). Laid BY PROGRAM, IN A SANDBOX (cutbox-door.mjs). By AI agents, Wed Nov 11 2026. No macro, syntax, notation, axiom, sorry.
-/
import Derived.Test.YtceahffmenbibaaGreatDoorRows
import GoSem.ClaimSeven
namespace Go.Proofs.YtceahffmenbibaaGreatDoor
namespace Rows

/-- THE TIED CARD OF 'assaylaw.Reads'. -/
def readsCard : Claim7 := { stood := { row := readsRow, standIns := [], harness := (true, "d0aaf7f5e806bb5886d445f7669b136f9e0d8c0141da196845cab33b561af08a"), looks := true }, kinds := [], alts := [], laidByText := true, laidKinds := [.data, .data, .data, .sentinel, .sentinel], laidTests := true, laidLooks := .later }
def ReadsCardSaid : Prop := Claim7.holds Tryz.pinned (.plain (OpenSpec.ofChange readsSpec)) readsCard

/-- THE TIED CARD OF 'assaylaw.Checks'. -/
def checksCard : Claim7 := { stood := { row := checksRow, standIns := [], harness := (true, "d0aaf7f5e806bb5886d445f7669b136f9e0d8c0141da196845cab33b561af08a"), looks := true }, kinds := [], alts := [], laidByText := true, laidKinds := [.data, .data, .data, .sentinel, .sentinel], laidTests := true, laidLooks := .later }
def ChecksCardSaid : Prop := Claim7.holds Tryz.pinned (.plain (OpenSpec.ofChange checksSpec)) checksCard

/-- THE TIED CARD OF 'assaylaw.Lubys'. -/
def lubysCard : Claim7 := { stood := { row := lubysRow, standIns := [], harness := (true, "d0aaf7f5e806bb5886d445f7669b136f9e0d8c0141da196845cab33b561af08a"), looks := true }, kinds := [], alts := [], laidByText := true, laidKinds := [.data, .data, .data, .sentinel, .sentinel], laidTests := true, laidLooks := .later }
def LubysCardSaid : Prop := Claim7.holds Tryz.pinned (.plain (OpenSpec.ofChange lubysSpec)) lubysCard

/-- THE TIED CARD OF 'assaylaw.Solves'. -/
def solvesCard : Claim7 := { stood := { row := solvesRow, standIns := [], harness := (true, "d0aaf7f5e806bb5886d445f7669b136f9e0d8c0141da196845cab33b561af08a"), looks := true }, kinds := [], alts := [], laidByText := true, laidKinds := [.data, .data, .data, .sentinel, .sentinel], laidTests := true, laidLooks := .later }
def SolvesCardSaid : Prop := Claim7.holds Tryz.pinned (.plain (OpenSpec.ofChange solvesSpec)) solvesCard

/-- THE TIED CARD OF 'assaykeep.Shown'. -/
def shownCard : Claim7 := { stood := { row := shownRow, standIns := [], harness := (true, "d0aaf7f5e806bb5886d445f7669b136f9e0d8c0141da196845cab33b561af08a"), looks := true }, kinds := [], alts := [], laidByText := true, laidKinds := [.data, .data, .data, .sentinel, .sentinel], laidTests := true, laidLooks := .later }
def ShownCardSaid : Prop := Claim7.holds Tryz.pinned (.plain (OpenSpec.ofChange shownSpec)) shownCard

/-- THE TIED CARD OF 'assaykeep.Sunk'. -/
def sunkCard : Claim7 := { stood := { row := sunkRow, standIns := [], harness := (true, "d0aaf7f5e806bb5886d445f7669b136f9e0d8c0141da196845cab33b561af08a"), looks := true }, kinds := [], alts := [], laidByText := true, laidKinds := [.data, .data, .data, .sentinel, .sentinel], laidTests := true, laidLooks := .later }
def SunkCardSaid : Prop := Claim7.holds Tryz.pinned (.plain (OpenSpec.ofChange sunkSpec)) sunkCard

/-- THE TIED CARD OF 'assaykeep.Planted'. -/
def plantedCard : Claim7 := { stood := { row := plantedRow, standIns := [], harness := (true, "d0aaf7f5e806bb5886d445f7669b136f9e0d8c0141da196845cab33b561af08a"), looks := true }, kinds := [], alts := [], laidByText := true, laidKinds := [.data, .data, .data, .sentinel, .sentinel], laidTests := true, laidLooks := .later }
def PlantedCardSaid : Prop := Claim7.holds Tryz.pinned (.plain (OpenSpec.ofChange plantedSpec)) plantedCard

/-- THE TIED CARD OF 'assaykeep.Tried'. -/
def triedCard : Claim7 := { stood := { row := triedRow, standIns := [], harness := (true, "d0aaf7f5e806bb5886d445f7669b136f9e0d8c0141da196845cab33b561af08a"), looks := true }, kinds := [], alts := [], laidByText := true, laidKinds := [.data, .data, .data, .sentinel, .sentinel], laidTests := true, laidLooks := .later }
def TriedCardSaid : Prop := Claim7.holds Tryz.pinned (.plain (OpenSpec.ofChange triedSpec)) triedCard

/-- THE TIED CARD OF 'assaykeep.Turned'. -/
def turnedCard : Claim7 := { stood := { row := turnedRow, standIns := [], harness := (true, "d0aaf7f5e806bb5886d445f7669b136f9e0d8c0141da196845cab33b561af08a"), looks := true }, kinds := [], alts := [], laidByText := true, laidKinds := [.data, .data, .data, .sentinel, .sentinel], laidTests := true, laidLooks := .later }
def TurnedCardSaid : Prop := Claim7.holds Tryz.pinned (.plain (OpenSpec.ofChange turnedSpec)) turnedCard

/-- THE TIED CARD OF 'assaykeep.Eased'. -/
def easedCard : Claim7 := { stood := { row := easedRow, standIns := [], harness := (true, "d0aaf7f5e806bb5886d445f7669b136f9e0d8c0141da196845cab33b561af08a"), looks := true }, kinds := [], alts := [], laidByText := true, laidKinds := [.data, .data, .data, .sentinel, .sentinel], laidTests := true, laidLooks := .later }
def EasedCardSaid : Prop := Claim7.holds Tryz.pinned (.plain (OpenSpec.ofChange easedSpec)) easedCard

/-- THE TIED CARD OF 'assaykeep.Crowded'. -/
def crowdedCard : Claim7 := { stood := { row := crowdedRow, standIns := [], harness := (true, "d0aaf7f5e806bb5886d445f7669b136f9e0d8c0141da196845cab33b561af08a"), looks := true }, kinds := [], alts := [], laidByText := true, laidKinds := [.data, .data, .data, .sentinel, .sentinel], laidTests := true, laidLooks := .later }
def CrowdedCardSaid : Prop := Claim7.holds Tryz.pinned (.plain (OpenSpec.ofChange crowdedSpec)) crowdedCard

/-- THE TIED CARD OF 'assaykeep.Proved'. -/
def provedCard : Claim7 := { stood := { row := provedRow, standIns := [], harness := (true, "d0aaf7f5e806bb5886d445f7669b136f9e0d8c0141da196845cab33b561af08a"), looks := true }, kinds := [], alts := [], laidByText := true, laidKinds := [.data, .data, .data, .sentinel, .sentinel], laidTests := true, laidLooks := .later }
def ProvedCardSaid : Prop := Claim7.holds Tryz.pinned (.plain (OpenSpec.ofChange provedSpec)) provedCard

/-- THE SECOND FORM's CARD OF 'assaylaw.Reads'. -/
def readsUptoCard : Claim7 := { stood := { row := readsUptoRow, standIns := [], harness := (true, "d0aaf7f5e806bb5886d445f7669b136f9e0d8c0141da196845cab33b561af08a"), looks := true }, kinds := [], alts := [], laidByText := true, laidKinds := [.data, .data, .data, .sentinel, .sentinel], laidTests := true, laidLooks := .later }
def ReadsUptoCardSaid : Prop := Claim7.holds Tryz.pinned (.plain (OpenSpec.upto readsSpec)) readsUptoCard

/-- THE SECOND FORM's CARD OF 'assaylaw.Checks'. -/
def checksUptoCard : Claim7 := { stood := { row := checksUptoRow, standIns := [], harness := (true, "d0aaf7f5e806bb5886d445f7669b136f9e0d8c0141da196845cab33b561af08a"), looks := true }, kinds := [], alts := [], laidByText := true, laidKinds := [.data, .data, .data, .sentinel, .sentinel], laidTests := true, laidLooks := .later }
def ChecksUptoCardSaid : Prop := Claim7.holds Tryz.pinned (.plain (OpenSpec.upto checksSpec)) checksUptoCard

/-- THE SECOND FORM's CARD OF 'assaylaw.Lubys'. -/
def lubysUptoCard : Claim7 := { stood := { row := lubysUptoRow, standIns := [], harness := (true, "d0aaf7f5e806bb5886d445f7669b136f9e0d8c0141da196845cab33b561af08a"), looks := true }, kinds := [], alts := [], laidByText := true, laidKinds := [.data, .data, .data, .sentinel, .sentinel], laidTests := true, laidLooks := .later }
def LubysUptoCardSaid : Prop := Claim7.holds Tryz.pinned (.plain (OpenSpec.upto lubysSpec)) lubysUptoCard

/-- THE SECOND FORM's CARD OF 'assaylaw.Solves'. -/
def solvesUptoCard : Claim7 := { stood := { row := solvesUptoRow, standIns := [], harness := (true, "d0aaf7f5e806bb5886d445f7669b136f9e0d8c0141da196845cab33b561af08a"), looks := true }, kinds := [], alts := [], laidByText := true, laidKinds := [.data, .data, .data, .sentinel, .sentinel], laidTests := true, laidLooks := .later }
def SolvesUptoCardSaid : Prop := Claim7.holds Tryz.pinned (.plain (OpenSpec.upto solvesSpec)) solvesUptoCard

/-- THE SECOND FORM's CARD OF 'assaykeep.Shown'. -/
def shownUptoCard : Claim7 := { stood := { row := shownUptoRow, standIns := [], harness := (true, "d0aaf7f5e806bb5886d445f7669b136f9e0d8c0141da196845cab33b561af08a"), looks := true }, kinds := [], alts := [], laidByText := true, laidKinds := [.data, .data, .data, .sentinel, .sentinel], laidTests := true, laidLooks := .later }
def ShownUptoCardSaid : Prop := Claim7.holds Tryz.pinned (.plain (OpenSpec.upto shownSpec)) shownUptoCard

/-- THE SECOND FORM's CARD OF 'assaykeep.Sunk'. -/
def sunkUptoCard : Claim7 := { stood := { row := sunkUptoRow, standIns := [], harness := (true, "d0aaf7f5e806bb5886d445f7669b136f9e0d8c0141da196845cab33b561af08a"), looks := true }, kinds := [], alts := [], laidByText := true, laidKinds := [.data, .data, .data, .sentinel, .sentinel], laidTests := true, laidLooks := .later }
def SunkUptoCardSaid : Prop := Claim7.holds Tryz.pinned (.plain (OpenSpec.upto sunkSpec)) sunkUptoCard

/-- THE SECOND FORM's CARD OF 'assaykeep.Planted'. -/
def plantedUptoCard : Claim7 := { stood := { row := plantedUptoRow, standIns := [], harness := (true, "d0aaf7f5e806bb5886d445f7669b136f9e0d8c0141da196845cab33b561af08a"), looks := true }, kinds := [], alts := [], laidByText := true, laidKinds := [.data, .data, .data, .sentinel, .sentinel], laidTests := true, laidLooks := .later }
def PlantedUptoCardSaid : Prop := Claim7.holds Tryz.pinned (.plain (OpenSpec.upto plantedSpec)) plantedUptoCard

/-- THE SECOND FORM's CARD OF 'assaykeep.Tried'. -/
def triedUptoCard : Claim7 := { stood := { row := triedUptoRow, standIns := [], harness := (true, "d0aaf7f5e806bb5886d445f7669b136f9e0d8c0141da196845cab33b561af08a"), looks := true }, kinds := [], alts := [], laidByText := true, laidKinds := [.data, .data, .data, .sentinel, .sentinel], laidTests := true, laidLooks := .later }
def TriedUptoCardSaid : Prop := Claim7.holds Tryz.pinned (.plain (OpenSpec.upto triedSpec)) triedUptoCard

/-- THE SECOND FORM's CARD OF 'assaykeep.Turned'. -/
def turnedUptoCard : Claim7 := { stood := { row := turnedUptoRow, standIns := [], harness := (true, "d0aaf7f5e806bb5886d445f7669b136f9e0d8c0141da196845cab33b561af08a"), looks := true }, kinds := [], alts := [], laidByText := true, laidKinds := [.data, .data, .data, .sentinel, .sentinel], laidTests := true, laidLooks := .later }
def TurnedUptoCardSaid : Prop := Claim7.holds Tryz.pinned (.plain (OpenSpec.upto turnedSpec)) turnedUptoCard

/-- THE SECOND FORM's CARD OF 'assaykeep.Eased'. -/
def easedUptoCard : Claim7 := { stood := { row := easedUptoRow, standIns := [], harness := (true, "d0aaf7f5e806bb5886d445f7669b136f9e0d8c0141da196845cab33b561af08a"), looks := true }, kinds := [], alts := [], laidByText := true, laidKinds := [.data, .data, .data, .sentinel, .sentinel], laidTests := true, laidLooks := .later }
def EasedUptoCardSaid : Prop := Claim7.holds Tryz.pinned (.plain (OpenSpec.upto easedSpec)) easedUptoCard

/-- THE SECOND FORM's CARD OF 'assaykeep.Crowded'. -/
def crowdedUptoCard : Claim7 := { stood := { row := crowdedUptoRow, standIns := [], harness := (true, "d0aaf7f5e806bb5886d445f7669b136f9e0d8c0141da196845cab33b561af08a"), looks := true }, kinds := [], alts := [], laidByText := true, laidKinds := [.data, .data, .data, .sentinel, .sentinel], laidTests := true, laidLooks := .later }
def CrowdedUptoCardSaid : Prop := Claim7.holds Tryz.pinned (.plain (OpenSpec.upto crowdedSpec)) crowdedUptoCard

/-- THE SECOND FORM's CARD OF 'assaykeep.Proved'. -/
def provedUptoCard : Claim7 := { stood := { row := provedUptoRow, standIns := [], harness := (true, "d0aaf7f5e806bb5886d445f7669b136f9e0d8c0141da196845cab33b561af08a"), looks := true }, kinds := [], alts := [], laidByText := true, laidKinds := [.data, .data, .data, .sentinel, .sentinel], laidTests := true, laidLooks := .later }
def ProvedUptoCardSaid : Prop := Claim7.holds Tryz.pinned (.plain (OpenSpec.upto provedSpec)) provedUptoCard
end Rows
end Go.Proofs.YtceahffmenbibaaGreatDoor
