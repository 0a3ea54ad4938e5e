/-
  DERIVED. GIVEN WITH THE SEED: THE CARDS: each row of YtjkllmiikdlhhaaGreatDoorRows.lean that lists a variable, with what it lists TIED to the program's text (the seventh form; the later family's looks); each row that meets fmt, with fmt's text TOLD by the authors' own Lean function (tested against real Go, not proved from fmt's source: count such statements apart). THE CARD IS WHAT COUNTS. Prove the row's statement (the work); the ties are given (YtjkllmiikdlhhaaGreatDoorTie.lean); close each card by the builder's one call (the guide's Derived/Test/ToyasCard.lean, 'card_holds'). Laid BY PROGRAM, IN A SANDBOX (cutbox-door.mjs). By AI agents, Wed Nov 11 2026. No macro, syntax, notation, axiom, sorry.
-/
import Derived.Test.YtjkllmiikdlhhaaGreatDoorRows
import GoSem.ClaimSeven
namespace Go.Proofs.YtjkllmiikdlhhaaGreatDoor
namespace Rows

/-- THE TIED CARD OF 'invariantslaw.Prints'. -/
def printsCard : Claim7 := { stood := { row := printsRow, standIns := [], harness := (true, "95cff3bf4f7cb1e17b1f0196a1fcc343d8589d39373f0520d9f861845b35af4f"), looks := true }, kinds := [], alts := [], laidByText := true, laidKinds := [.data, .data, .data, .data, .data, .handle, .sentinel, .sentinel], laidTests := true, laidLooks := .later }
def PrintsCardSaid : Prop := Claim7.holds Tryz.pinned (.plain (OpenSpec.ofChange printsSpec)) printsCard

/-- THE TIED CARD OF 'invariantslaw.Again'. -/
def againCard : Claim7 := { stood := { row := againRow, standIns := [], harness := (true, "95cff3bf4f7cb1e17b1f0196a1fcc343d8589d39373f0520d9f861845b35af4f"), looks := true }, kinds := [], alts := [], laidByText := true, laidKinds := [.data, .data, .data, .data, .data, .handle, .sentinel, .sentinel], laidTests := true, laidLooks := .later }
def AgainCardSaid : Prop := Claim7.holds Tryz.pinned (.plain (OpenSpec.ofChange againSpec)) againCard

/-- THE TIED CARD OF 'invariantslaw.Spaced'. -/
def spacedCard : Claim7 := { stood := { row := spacedRow, standIns := [], harness := (true, "95cff3bf4f7cb1e17b1f0196a1fcc343d8589d39373f0520d9f861845b35af4f"), looks := true }, kinds := [], alts := [], laidByText := true, laidKinds := [.data, .data, .data, .data, .data, .handle, .sentinel, .sentinel], laidTests := true, laidLooks := .later }
def SpacedCardSaid : Prop := Claim7.holds Tryz.pinned (.plain (OpenSpec.ofChange spacedSpec)) spacedCard

/-- THE SECOND FORM's CARD OF 'invariantslaw.Prints'. -/
def printsUptoCard : Claim7 := { stood := { row := printsUptoRow, standIns := [], harness := (true, "95cff3bf4f7cb1e17b1f0196a1fcc343d8589d39373f0520d9f861845b35af4f"), looks := true }, kinds := [], alts := [], laidByText := true, laidKinds := [.data, .data, .data, .data, .data, .handle, .sentinel, .sentinel], laidTests := true, laidLooks := .later }
def PrintsUptoCardSaid : Prop := Claim7.holds Tryz.pinned (.plain (OpenSpec.upto printsSpec)) printsUptoCard

/-- THE SECOND FORM's CARD OF 'invariantslaw.Again'. -/
def againUptoCard : Claim7 := { stood := { row := againUptoRow, standIns := [], harness := (true, "95cff3bf4f7cb1e17b1f0196a1fcc343d8589d39373f0520d9f861845b35af4f"), looks := true }, kinds := [], alts := [], laidByText := true, laidKinds := [.data, .data, .data, .data, .data, .handle, .sentinel, .sentinel], laidTests := true, laidLooks := .later }
def AgainUptoCardSaid : Prop := Claim7.holds Tryz.pinned (.plain (OpenSpec.upto againSpec)) againUptoCard

/-- THE SECOND FORM's CARD OF 'invariantslaw.Spaced'. -/
def spacedUptoCard : Claim7 := { stood := { row := spacedUptoRow, standIns := [], harness := (true, "95cff3bf4f7cb1e17b1f0196a1fcc343d8589d39373f0520d9f861845b35af4f"), looks := true }, kinds := [], alts := [], laidByText := true, laidKinds := [.data, .data, .data, .data, .data, .handle, .sentinel, .sentinel], laidTests := true, laidLooks := .later }
def SpacedUptoCardSaid : Prop := Claim7.holds Tryz.pinned (.plain (OpenSpec.upto spacedSpec)) spacedUptoCard
end Rows
end Go.Proofs.YtjkllmiikdlhhaaGreatDoor
