/-
  DERIVED. GIVEN WITH THE SEED: THE CARDS: each row of YtiopfihjmkfdmaaGreatDoorRows.lean that lists a variable, with what it lists TIED to the program's text (the seventh form; the later family's looks); each row that meets fmt, with fmt's text TOLD by the authors' own Lean function (tested against real Go, not proved from fmt's source: count such statements apart). THE CARD IS WHAT COUNTS. Prove the row's statement (the work); the ties are given (YtiopfihjmkfdmaaGreatDoorTie.lean); close each card by the builder's one call (the guide's Derived/Test/ToyasCard.lean, 'card_holds'). Laid BY PROGRAM, IN A SANDBOX (cutbox-door.mjs). By AI agents, Wed Nov 11 2026. No macro, syntax, notation, axiom, sorry.
-/
import Derived.Test.YtiopfihjmkfdmaaGreatDoorRows
import GoSem.ClaimSeven
namespace Go.Proofs.YtiopfihjmkfdmaaGreatDoor
namespace Rows

/-- THE TIED CARD OF 'invariantslaw.Prints'. -/
def printsCard : Claim7 := { stood := { row := printsRow, standIns := [], harness := (true, "fdf5c1a2158577b16ce993807023c04d392989a589b72fc26459817c407b1a4b"), looks := true }, kinds := [], alts := [], laidByText := true, laidKinds := [.data, .data, .data, .data, .data, .handle, .sentinel, .sentinel], laidTests := true, laidLooks := .later }
def PrintsCardSaid : Prop := Claim7.holds Tryz.pinned (.plain (OpenSpec.ofChange printsSpec)) printsCard

/-- THE TIED CARD OF 'invariantslaw.Again'. -/
def againCard : Claim7 := { stood := { row := againRow, standIns := [], harness := (true, "fdf5c1a2158577b16ce993807023c04d392989a589b72fc26459817c407b1a4b"), looks := true }, kinds := [], alts := [], laidByText := true, laidKinds := [.data, .data, .data, .data, .data, .handle, .sentinel, .sentinel], laidTests := true, laidLooks := .later }
def AgainCardSaid : Prop := Claim7.holds Tryz.pinned (.plain (OpenSpec.ofChange againSpec)) againCard

/-- THE TIED CARD OF 'invariantslaw.Spaced'. -/
def spacedCard : Claim7 := { stood := { row := spacedRow, standIns := [], harness := (true, "fdf5c1a2158577b16ce993807023c04d392989a589b72fc26459817c407b1a4b"), looks := true }, kinds := [], alts := [], laidByText := true, laidKinds := [.data, .data, .data, .data, .data, .handle, .sentinel, .sentinel], laidTests := true, laidLooks := .later }
def SpacedCardSaid : Prop := Claim7.holds Tryz.pinned (.plain (OpenSpec.ofChange spacedSpec)) spacedCard

/-- THE TIED CARD OF 'invariantslaw.Runs'. -/
def runsCard : Claim7 := { stood := { row := runsRow, standIns := [], harness := (true, "fdf5c1a2158577b16ce993807023c04d392989a589b72fc26459817c407b1a4b"), looks := true }, kinds := [], alts := [], laidByText := true, laidKinds := [.data, .data, .data, .data, .data, .handle, .sentinel, .sentinel], laidTests := true, laidLooks := .later }
def RunsCardSaid : Prop := Claim7.holds Tryz.pinned (.plain (OpenSpec.ofChange runsSpec)) runsCard

/-- THE TIED CARD OF 'invariantslaw.Longer'. -/
def longerCard : Claim7 := { stood := { row := longerRow, standIns := [], harness := (true, "fdf5c1a2158577b16ce993807023c04d392989a589b72fc26459817c407b1a4b"), looks := true }, kinds := [], alts := [], laidByText := true, laidKinds := [.data, .data, .data, .data, .data, .handle, .sentinel, .sentinel], laidTests := true, laidLooks := .later }
def LongerCardSaid : Prop := Claim7.holds Tryz.pinned (.plain (OpenSpec.ofChange longerSpec)) longerCard

/-- THE TIED CARD OF 'invariantslaw.Rerun'. -/
def rerunCard : Claim7 := { stood := { row := rerunRow, standIns := [], harness := (true, "fdf5c1a2158577b16ce993807023c04d392989a589b72fc26459817c407b1a4b"), looks := true }, kinds := [], alts := [], laidByText := true, laidKinds := [.data, .data, .data, .data, .data, .handle, .sentinel, .sentinel], laidTests := true, laidLooks := .later }
def RerunCardSaid : Prop := Claim7.holds Tryz.pinned (.plain (OpenSpec.ofChange rerunSpec)) rerunCard

/-- THE TIED CARD OF 'invariantslaw.Bounds'. -/
def boundsCard : Claim7 := { stood := { row := boundsRow, standIns := [], harness := (true, "fdf5c1a2158577b16ce993807023c04d392989a589b72fc26459817c407b1a4b"), looks := true }, kinds := [], alts := [], laidByText := true, laidKinds := [.data, .data, .data, .data, .data, .data, .data, .handle, .sentinel, .sentinel], laidTests := true, laidLooks := .later }
def BoundsCardSaid : Prop := Claim7.holds Tryz.pinned (.plain (OpenSpec.ofChange boundsSpec)) boundsCard

/-- THE TIED CARD OF 'invariantslaw.Sound'. -/
def soundCard : Claim7 := { stood := { row := soundRow, standIns := [], harness := (true, "fdf5c1a2158577b16ce993807023c04d392989a589b72fc26459817c407b1a4b"), looks := true }, kinds := [], alts := [], laidByText := true, laidKinds := [.data, .data, .data, .data, .data, .data, .data, .handle, .sentinel, .sentinel], laidTests := true, laidLooks := .later }
def SoundCardSaid : Prop := Claim7.holds Tryz.pinned (.plain (OpenSpec.ofChange soundSpec)) soundCard

/-- THE TIED CARD OF 'invariantslaw.Straight'. -/
def straightCard : Claim7 := { stood := { row := straightRow, standIns := [], harness := (true, "fdf5c1a2158577b16ce993807023c04d392989a589b72fc26459817c407b1a4b"), looks := true }, kinds := [], alts := [], laidByText := true, laidKinds := [.data, .data, .data, .data, .data, .data, .data, .handle, .sentinel, .sentinel], laidTests := true, laidLooks := .later }
def StraightCardSaid : Prop := Claim7.holds Tryz.pinned (.plain (OpenSpec.ofChange straightSpec)) straightCard

/-- THE TIED CARD OF 'invariantslaw.Remainders'. -/
def remaindersCard : Claim7 := { stood := { row := remaindersRow, standIns := [], harness := (true, "fdf5c1a2158577b16ce993807023c04d392989a589b72fc26459817c407b1a4b"), looks := true }, kinds := [], alts := [], laidByText := true, laidKinds := [.data, .data, .data, .data, .data, .data, .data, .handle, .sentinel, .sentinel], laidTests := true, laidLooks := .later }
def RemaindersCardSaid : Prop := Claim7.holds Tryz.pinned (.plain (OpenSpec.ofChange remaindersSpec)) remaindersCard

/-- THE TIED CARD OF 'invariantslaw.Left'. -/
def leftCard : Claim7 := { stood := { row := leftRow, standIns := [], harness := (true, "fdf5c1a2158577b16ce993807023c04d392989a589b72fc26459817c407b1a4b"), looks := true }, kinds := [], alts := [], laidByText := true, laidKinds := [.data, .data, .data, .data, .data, .data, .data, .handle, .sentinel, .sentinel], laidTests := true, laidLooks := .later }
def LeftCardSaid : Prop := Claim7.holds Tryz.pinned (.plain (OpenSpec.ofChange leftSpec)) leftCard

/-- THE TIED CARD OF 'invariantslaw.Constant'. -/
def constantCard : Claim7 := { stood := { row := constantRow, standIns := [], harness := (true, "fdf5c1a2158577b16ce993807023c04d392989a589b72fc26459817c407b1a4b"), looks := true }, kinds := [], alts := [], laidByText := true, laidKinds := [.data, .data, .data, .data, .data, .data, .data, .handle, .sentinel, .sentinel], laidTests := true, laidLooks := .later }
def ConstantCardSaid : Prop := Claim7.holds Tryz.pinned (.plain (OpenSpec.ofChange constantSpec)) constantCard

/-- THE SECOND FORM's CARD OF 'invariantslaw.Prints'. -/
def printsUptoCard : Claim7 := { stood := { row := printsUptoRow, standIns := [], harness := (true, "fdf5c1a2158577b16ce993807023c04d392989a589b72fc26459817c407b1a4b"), looks := true }, kinds := [], alts := [], laidByText := true, laidKinds := [.data, .data, .data, .data, .data, .handle, .sentinel, .sentinel], laidTests := true, laidLooks := .later }
def PrintsUptoCardSaid : Prop := Claim7.holds Tryz.pinned (.plain (OpenSpec.upto printsSpec)) printsUptoCard

/-- THE SECOND FORM's CARD OF 'invariantslaw.Again'. -/
def againUptoCard : Claim7 := { stood := { row := againUptoRow, standIns := [], harness := (true, "fdf5c1a2158577b16ce993807023c04d392989a589b72fc26459817c407b1a4b"), looks := true }, kinds := [], alts := [], laidByText := true, laidKinds := [.data, .data, .data, .data, .data, .handle, .sentinel, .sentinel], laidTests := true, laidLooks := .later }
def AgainUptoCardSaid : Prop := Claim7.holds Tryz.pinned (.plain (OpenSpec.upto againSpec)) againUptoCard

/-- THE SECOND FORM's CARD OF 'invariantslaw.Spaced'. -/
def spacedUptoCard : Claim7 := { stood := { row := spacedUptoRow, standIns := [], harness := (true, "fdf5c1a2158577b16ce993807023c04d392989a589b72fc26459817c407b1a4b"), looks := true }, kinds := [], alts := [], laidByText := true, laidKinds := [.data, .data, .data, .data, .data, .handle, .sentinel, .sentinel], laidTests := true, laidLooks := .later }
def SpacedUptoCardSaid : Prop := Claim7.holds Tryz.pinned (.plain (OpenSpec.upto spacedSpec)) spacedUptoCard

/-- THE SECOND FORM's CARD OF 'invariantslaw.Runs'. -/
def runsUptoCard : Claim7 := { stood := { row := runsUptoRow, standIns := [], harness := (true, "fdf5c1a2158577b16ce993807023c04d392989a589b72fc26459817c407b1a4b"), looks := true }, kinds := [], alts := [], laidByText := true, laidKinds := [.data, .data, .data, .data, .data, .handle, .sentinel, .sentinel], laidTests := true, laidLooks := .later }
def RunsUptoCardSaid : Prop := Claim7.holds Tryz.pinned (.plain (OpenSpec.upto runsSpec)) runsUptoCard

/-- THE SECOND FORM's CARD OF 'invariantslaw.Longer'. -/
def longerUptoCard : Claim7 := { stood := { row := longerUptoRow, standIns := [], harness := (true, "fdf5c1a2158577b16ce993807023c04d392989a589b72fc26459817c407b1a4b"), looks := true }, kinds := [], alts := [], laidByText := true, laidKinds := [.data, .data, .data, .data, .data, .handle, .sentinel, .sentinel], laidTests := true, laidLooks := .later }
def LongerUptoCardSaid : Prop := Claim7.holds Tryz.pinned (.plain (OpenSpec.upto longerSpec)) longerUptoCard

/-- THE SECOND FORM's CARD OF 'invariantslaw.Rerun'. -/
def rerunUptoCard : Claim7 := { stood := { row := rerunUptoRow, standIns := [], harness := (true, "fdf5c1a2158577b16ce993807023c04d392989a589b72fc26459817c407b1a4b"), looks := true }, kinds := [], alts := [], laidByText := true, laidKinds := [.data, .data, .data, .data, .data, .handle, .sentinel, .sentinel], laidTests := true, laidLooks := .later }
def RerunUptoCardSaid : Prop := Claim7.holds Tryz.pinned (.plain (OpenSpec.upto rerunSpec)) rerunUptoCard

/-- THE SECOND FORM's CARD OF 'invariantslaw.Bounds'. -/
def boundsUptoCard : Claim7 := { stood := { row := boundsUptoRow, standIns := [], harness := (true, "fdf5c1a2158577b16ce993807023c04d392989a589b72fc26459817c407b1a4b"), looks := true }, kinds := [], alts := [], laidByText := true, laidKinds := [.data, .data, .data, .data, .data, .data, .data, .handle, .sentinel, .sentinel], laidTests := true, laidLooks := .later }
def BoundsUptoCardSaid : Prop := Claim7.holds Tryz.pinned (.plain (OpenSpec.upto boundsSpec)) boundsUptoCard

/-- THE SECOND FORM's CARD OF 'invariantslaw.Sound'. -/
def soundUptoCard : Claim7 := { stood := { row := soundUptoRow, standIns := [], harness := (true, "fdf5c1a2158577b16ce993807023c04d392989a589b72fc26459817c407b1a4b"), looks := true }, kinds := [], alts := [], laidByText := true, laidKinds := [.data, .data, .data, .data, .data, .data, .data, .handle, .sentinel, .sentinel], laidTests := true, laidLooks := .later }
def SoundUptoCardSaid : Prop := Claim7.holds Tryz.pinned (.plain (OpenSpec.upto soundSpec)) soundUptoCard

/-- THE SECOND FORM's CARD OF 'invariantslaw.Straight'. -/
def straightUptoCard : Claim7 := { stood := { row := straightUptoRow, standIns := [], harness := (true, "fdf5c1a2158577b16ce993807023c04d392989a589b72fc26459817c407b1a4b"), looks := true }, kinds := [], alts := [], laidByText := true, laidKinds := [.data, .data, .data, .data, .data, .data, .data, .handle, .sentinel, .sentinel], laidTests := true, laidLooks := .later }
def StraightUptoCardSaid : Prop := Claim7.holds Tryz.pinned (.plain (OpenSpec.upto straightSpec)) straightUptoCard

/-- THE SECOND FORM's CARD OF 'invariantslaw.Remainders'. -/
def remaindersUptoCard : Claim7 := { stood := { row := remaindersUptoRow, standIns := [], harness := (true, "fdf5c1a2158577b16ce993807023c04d392989a589b72fc26459817c407b1a4b"), looks := true }, kinds := [], alts := [], laidByText := true, laidKinds := [.data, .data, .data, .data, .data, .data, .data, .handle, .sentinel, .sentinel], laidTests := true, laidLooks := .later }
def RemaindersUptoCardSaid : Prop := Claim7.holds Tryz.pinned (.plain (OpenSpec.upto remaindersSpec)) remaindersUptoCard

/-- THE SECOND FORM's CARD OF 'invariantslaw.Left'. -/
def leftUptoCard : Claim7 := { stood := { row := leftUptoRow, standIns := [], harness := (true, "fdf5c1a2158577b16ce993807023c04d392989a589b72fc26459817c407b1a4b"), looks := true }, kinds := [], alts := [], laidByText := true, laidKinds := [.data, .data, .data, .data, .data, .data, .data, .handle, .sentinel, .sentinel], laidTests := true, laidLooks := .later }
def LeftUptoCardSaid : Prop := Claim7.holds Tryz.pinned (.plain (OpenSpec.upto leftSpec)) leftUptoCard

/-- THE SECOND FORM's CARD OF 'invariantslaw.Constant'. -/
def constantUptoCard : Claim7 := { stood := { row := constantUptoRow, standIns := [], harness := (true, "fdf5c1a2158577b16ce993807023c04d392989a589b72fc26459817c407b1a4b"), looks := true }, kinds := [], alts := [], laidByText := true, laidKinds := [.data, .data, .data, .data, .data, .data, .data, .handle, .sentinel, .sentinel], laidTests := true, laidLooks := .later }
def ConstantUptoCardSaid : Prop := Claim7.holds Tryz.pinned (.plain (OpenSpec.upto constantSpec)) constantUptoCard
end Rows
end Go.Proofs.YtiopfihjmkfdmaaGreatDoor
