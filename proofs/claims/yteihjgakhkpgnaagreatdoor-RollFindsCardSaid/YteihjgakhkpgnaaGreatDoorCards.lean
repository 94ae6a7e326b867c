/-
  DERIVED. GIVEN WITH THE SEED: THE CARDS: each row of YteihjgakhkpgnaaGreatDoorRows.lean that lists a variable, with what it lists TIED to the program's text (the seventh form; the later family's looks); each row that meets fmt, with fmt's text TOLD by the authors' own Lean function (tested against real Go, not proved from fmt's source: count such statements apart). THE CARD IS WHAT COUNTS. Prove the row's statement (the work); the ties are given (YteihjgakhkpgnaaGreatDoorTie.lean); close each card by the builder's one call (the guide's Derived/Test/ToyasCard.lean, 'card_holds'). Laid BY PROGRAM, IN A SANDBOX (cutbox-door.mjs). By AI agents, Wed Nov 11 2026. No macro, syntax, notation, axiom, sorry.
-/
import Derived.Test.YteihjgakhkpgnaaGreatDoorRows
import GoSem.ClaimSeven
namespace Go.Proofs.YteihjgakhkpgnaaGreatDoor
namespace Rows

/-- THE TIED CARD OF 'signetlaw15.RollFinds'. -/
def rollFindsCard : Claim7 := { stood := { row := rollFindsRow, standIns := [], harness := (true, "d5d9c6ddd179af43c0224a85b6e90eb46fcf4681c52f982875af2e1629b51b1a"), looks := false }, kinds := [], alts := [], laidByText := true, laidKinds := [.data, .pinned], laidTests := true, laidLooks := .later }
def RollFindsCardSaid : Prop := Claim7.holds Tryz.pinned (.plain (OpenSpec.ofChange rollFindsSpec)) rollFindsCard

/-- THE TIED CARD OF 'signetlaw15.RollAuths'. -/
def rollAuthsCard : Claim7 := { stood := { row := rollAuthsRow, standIns := [], harness := (true, "d5d9c6ddd179af43c0224a85b6e90eb46fcf4681c52f982875af2e1629b51b1a"), looks := false }, kinds := [], alts := [], laidByText := true, laidKinds := [.data, .pinned], laidTests := true, laidLooks := .later }
def RollAuthsCardSaid : Prop := Claim7.holds Tryz.pinned (.plain (OpenSpec.ofChange rollAuthsSpec)) rollAuthsCard

/-- THE TIED CARD OF 'signetlaw15.RollHeaders'. -/
def rollHeadersCard : Claim7 := { stood := { row := rollHeadersRow, standIns := [], harness := (true, "d5d9c6ddd179af43c0224a85b6e90eb46fcf4681c52f982875af2e1629b51b1a"), looks := false }, kinds := [], alts := [], laidByText := true, laidKinds := [.data, .pinned], laidTests := true, laidLooks := .later }
def RollHeadersCardSaid : Prop := Claim7.holds Tryz.pinned (.plain (OpenSpec.ofChange rollHeadersSpec)) rollHeadersCard

/-- THE TIED CARD OF 'signetlaw15.RollGives'. -/
def rollGivesCard : Claim7 := { stood := { row := rollGivesRow, standIns := [], harness := (true, "d5d9c6ddd179af43c0224a85b6e90eb46fcf4681c52f982875af2e1629b51b1a"), looks := false }, kinds := [], alts := [], laidByText := true, laidKinds := [.data, .pinned], laidTests := true, laidLooks := .later }
def RollGivesCardSaid : Prop := Claim7.holds Tryz.pinned (.plain (OpenSpec.ofChange rollGivesSpec)) rollGivesCard

/-- THE TIED CARD OF 'signetlaw15.RollWithin'. -/
def rollWithinCard : Claim7 := { stood := { row := rollWithinRow, standIns := [], harness := (true, "d5d9c6ddd179af43c0224a85b6e90eb46fcf4681c52f982875af2e1629b51b1a"), looks := false }, kinds := [], alts := [], laidByText := true, laidKinds := [.data, .pinned], laidTests := true, laidLooks := .later }
def RollWithinCardSaid : Prop := Claim7.holds Tryz.pinned (.plain (OpenSpec.ofChange rollWithinSpec)) rollWithinCard

/-- THE TIED CARD OF 'signetlaw15.RollKeeps'. -/
def rollKeepsCard : Claim7 := { stood := { row := rollKeepsRow, standIns := [], harness := (true, "d5d9c6ddd179af43c0224a85b6e90eb46fcf4681c52f982875af2e1629b51b1a"), looks := false }, kinds := [], alts := [], laidByText := true, laidKinds := [.data, .pinned], laidTests := true, laidLooks := .later }
def RollKeepsCardSaid : Prop := Claim7.holds Tryz.pinned (.plain (OpenSpec.ofChange rollKeepsSpec)) rollKeepsCard

/-- THE SECOND FORM's CARD OF 'signetlaw15.RollFinds'. -/
def rollFindsUptoCard : Claim7 := { stood := { row := rollFindsUptoRow, standIns := [], harness := (true, "d5d9c6ddd179af43c0224a85b6e90eb46fcf4681c52f982875af2e1629b51b1a"), looks := false }, kinds := [], alts := [], laidByText := true, laidKinds := [.data, .pinned], laidTests := true, laidLooks := .later }
def RollFindsUptoCardSaid : Prop := Claim7.holds Tryz.pinned (.plain (OpenSpec.upto rollFindsSpec)) rollFindsUptoCard

/-- THE SECOND FORM's CARD OF 'signetlaw15.RollAuths'. -/
def rollAuthsUptoCard : Claim7 := { stood := { row := rollAuthsUptoRow, standIns := [], harness := (true, "d5d9c6ddd179af43c0224a85b6e90eb46fcf4681c52f982875af2e1629b51b1a"), looks := false }, kinds := [], alts := [], laidByText := true, laidKinds := [.data, .pinned], laidTests := true, laidLooks := .later }
def RollAuthsUptoCardSaid : Prop := Claim7.holds Tryz.pinned (.plain (OpenSpec.upto rollAuthsSpec)) rollAuthsUptoCard

/-- THE SECOND FORM's CARD OF 'signetlaw15.RollHeaders'. -/
def rollHeadersUptoCard : Claim7 := { stood := { row := rollHeadersUptoRow, standIns := [], harness := (true, "d5d9c6ddd179af43c0224a85b6e90eb46fcf4681c52f982875af2e1629b51b1a"), looks := false }, kinds := [], alts := [], laidByText := true, laidKinds := [.data, .pinned], laidTests := true, laidLooks := .later }
def RollHeadersUptoCardSaid : Prop := Claim7.holds Tryz.pinned (.plain (OpenSpec.upto rollHeadersSpec)) rollHeadersUptoCard

/-- THE SECOND FORM's CARD OF 'signetlaw15.RollGives'. -/
def rollGivesUptoCard : Claim7 := { stood := { row := rollGivesUptoRow, standIns := [], harness := (true, "d5d9c6ddd179af43c0224a85b6e90eb46fcf4681c52f982875af2e1629b51b1a"), looks := false }, kinds := [], alts := [], laidByText := true, laidKinds := [.data, .pinned], laidTests := true, laidLooks := .later }
def RollGivesUptoCardSaid : Prop := Claim7.holds Tryz.pinned (.plain (OpenSpec.upto rollGivesSpec)) rollGivesUptoCard

/-- THE SECOND FORM's CARD OF 'signetlaw15.RollWithin'. -/
def rollWithinUptoCard : Claim7 := { stood := { row := rollWithinUptoRow, standIns := [], harness := (true, "d5d9c6ddd179af43c0224a85b6e90eb46fcf4681c52f982875af2e1629b51b1a"), looks := false }, kinds := [], alts := [], laidByText := true, laidKinds := [.data, .pinned], laidTests := true, laidLooks := .later }
def RollWithinUptoCardSaid : Prop := Claim7.holds Tryz.pinned (.plain (OpenSpec.upto rollWithinSpec)) rollWithinUptoCard

/-- THE SECOND FORM's CARD OF 'signetlaw15.RollKeeps'. -/
def rollKeepsUptoCard : Claim7 := { stood := { row := rollKeepsUptoRow, standIns := [], harness := (true, "d5d9c6ddd179af43c0224a85b6e90eb46fcf4681c52f982875af2e1629b51b1a"), looks := false }, kinds := [], alts := [], laidByText := true, laidKinds := [.data, .pinned], laidTests := true, laidLooks := .later }
def RollKeepsUptoCardSaid : Prop := Claim7.holds Tryz.pinned (.plain (OpenSpec.upto rollKeepsSpec)) rollKeepsUptoCard
end Rows
end Go.Proofs.YteihjgakhkpgnaaGreatDoor
