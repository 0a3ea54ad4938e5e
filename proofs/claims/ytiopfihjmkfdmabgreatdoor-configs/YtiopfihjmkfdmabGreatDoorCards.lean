/-
  DERIVED. GIVEN WITH THE SEED: THE CARDS: each row of YtiopfihjmkfdmabGreatDoorRows.lean that lists a variable, with what it lists TIED to the program's text (the seventh form; the later family's looks); each row that meets fmt, with fmt's text TOLD by the authors' own Lean function (tested against real Go, not proved from fmt's source: count such statements apart). THE CARD IS WHAT COUNTS. Prove the row's statement (the work); the ties are given (YtiopfihjmkfdmabGreatDoorTie.lean); close each card by the builder's one call (the guide's Derived/Test/ToyasCard.lean, 'card_holds'). Laid BY PROGRAM, IN A SANDBOX (cutbox-door.mjs). By AI agents, Wed Nov 11 2026. No macro, syntax, notation, axiom, sorry.
-/
import Derived.Test.YtiopfihjmkfdmabGreatDoorRows
import GoSem.ClaimSeven
namespace Go.Proofs.YtiopfihjmkfdmabGreatDoor
namespace Rows

/-- THE TIED CARD OF 'invariantslaw.Configs'. -/
def configsCard : Claim7 := { stood := { row := configsRow, standIns := [], harness := (true, "05ffdd63f90407b3ba36bdc3e55db559ffec3925afa1ea198fa9f5e845e2f280"), looks := true }, kinds := [], alts := [], laidByText := true, laidKinds := [.data, .data, .data, .data, .data, .data, .data, .handle, .sentinel, .sentinel], laidTests := true, laidLooks := .later }
def ConfigsCardSaid : Prop := Claim7.holds Tryz.pinned (.plain (OpenSpec.ofChange configsSpec)) configsCard

/-- THE TIED CARD OF 'invariantslaw.All'. -/
def allCard : Claim7 := { stood := { row := allRow, standIns := [], harness := (true, "05ffdd63f90407b3ba36bdc3e55db559ffec3925afa1ea198fa9f5e845e2f280"), looks := true }, kinds := [], alts := [], laidByText := true, laidKinds := [.data, .data, .data, .data, .data, .data, .data, .handle, .sentinel, .sentinel], laidTests := true, laidLooks := .later }
def AllCardSaid : Prop := Claim7.holds Tryz.pinned (.plain (OpenSpec.ofChange allSpec)) allCard

/-- THE SECOND FORM's CARD OF 'invariantslaw.Configs'. -/
def configsUptoCard : Claim7 := { stood := { row := configsUptoRow, standIns := [], harness := (true, "05ffdd63f90407b3ba36bdc3e55db559ffec3925afa1ea198fa9f5e845e2f280"), looks := true }, kinds := [], alts := [], laidByText := true, laidKinds := [.data, .data, .data, .data, .data, .data, .data, .handle, .sentinel, .sentinel], laidTests := true, laidLooks := .later }
def ConfigsUptoCardSaid : Prop := Claim7.holds Tryz.pinned (.plain (OpenSpec.upto configsSpec)) configsUptoCard

/-- THE SECOND FORM's CARD OF 'invariantslaw.All'. -/
def allUptoCard : Claim7 := { stood := { row := allUptoRow, standIns := [], harness := (true, "05ffdd63f90407b3ba36bdc3e55db559ffec3925afa1ea198fa9f5e845e2f280"), looks := true }, kinds := [], alts := [], laidByText := true, laidKinds := [.data, .data, .data, .data, .data, .data, .data, .handle, .sentinel, .sentinel], laidTests := true, laidLooks := .later }
def AllUptoCardSaid : Prop := Claim7.holds Tryz.pinned (.plain (OpenSpec.upto allSpec)) allUptoCard
end Rows
end Go.Proofs.YtiopfihjmkfdmabGreatDoor
