/-
  DERIVED. GIVEN WITH THE SEED: THE CARDS: each row of YtdcggafjhpjcfaaDoorRows.lean that lists a variable, with what it lists TIED to the program's text (the seventh form; the later family's looks); each row that meets fmt, with fmt's text TOLD by the authors' own Lean function (tested against real Go, not proved from fmt's source: count such statements apart). THE CARD IS WHAT COUNTS. Prove the row's statement (the work); the ties are given (YtdcggafjhpjcfaaDoorTie.lean); close each card by the builder's one call (the guide's Derived/Test/ToyasCard.lean, 'card_holds'). Laid BY PROGRAM, IN A SANDBOX (cutbox-door.mjs). By AI agents, Wed Nov 11 2026. No macro, syntax, notation, axiom, sorry.
-/
import Derived.Test.YtdcggafjhpjcfaaDoorRows
import GoSem.ClaimSeven
namespace Go.Proofs.YtdcggafjhpjcfaaDoor
namespace Rows

/-- THE TIED CARD OF 'assaylaw.Reads'. -/
def readsCard : Claim7 := { stood := { row := readsRow, standIns := [], harness := (true, "6e660eb0a9846d7f8f502d3063c554aa4cd2149ea587cff5435db53b8a892cda"), looks := true }, kinds := [], alts := [], laidByText := true, laidKinds := [.data, .data, .data, .sentinel, .sentinel], laidTests := true, laidLooks := .later }
def ReadsCardSaid : Prop := Claim7.holds Tryd.pinned (.plain (OpenSpec.ofChange readsSpec)) readsCard

/-- THE TIED CARD OF 'assaylaw.Lubys'. -/
def lubysCard : Claim7 := { stood := { row := lubysRow, standIns := [], harness := (true, "6e660eb0a9846d7f8f502d3063c554aa4cd2149ea587cff5435db53b8a892cda"), looks := true }, kinds := [], alts := [], laidByText := true, laidKinds := [.data, .data, .data, .sentinel, .sentinel], laidTests := true, laidLooks := .later }
def LubysCardSaid : Prop := Claim7.holds Tryd.pinned (.plain (OpenSpec.ofChange lubysSpec)) lubysCard

/-- THE SECOND FORM's CARD OF 'assaylaw.Reads'. -/
def readsUptoCard : Claim7 := { stood := { row := readsUptoRow, standIns := [], harness := (true, "6e660eb0a9846d7f8f502d3063c554aa4cd2149ea587cff5435db53b8a892cda"), looks := true }, kinds := [], alts := [], laidByText := true, laidKinds := [.data, .data, .data, .sentinel, .sentinel], laidTests := true, laidLooks := .later }
def ReadsUptoCardSaid : Prop := Claim7.holds Tryd.pinned (.plain (OpenSpec.upto readsSpec)) readsUptoCard

/-- THE SECOND FORM's CARD OF 'assaylaw.Lubys'. -/
def lubysUptoCard : Claim7 := { stood := { row := lubysUptoRow, standIns := [], harness := (true, "6e660eb0a9846d7f8f502d3063c554aa4cd2149ea587cff5435db53b8a892cda"), looks := true }, kinds := [], alts := [], laidByText := true, laidKinds := [.data, .data, .data, .sentinel, .sentinel], laidTests := true, laidLooks := .later }
def LubysUptoCardSaid : Prop := Claim7.holds Tryd.pinned (.plain (OpenSpec.upto lubysSpec)) lubysUptoCard
end Rows
end Go.Proofs.YtdcggafjhpjcfaaDoor
