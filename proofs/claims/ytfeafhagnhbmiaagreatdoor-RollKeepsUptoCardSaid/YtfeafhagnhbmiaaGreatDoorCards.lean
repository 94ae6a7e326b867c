/-
  DERIVED. GIVEN WITH THE SEED: THE CARDS: each row of YtfeafhagnhbmiaaGreatDoorRows.lean that lists a variable, with what it lists TIED to the program's text (the seventh form; the later family's looks); each row that meets fmt, with fmt's text TOLD by the authors' own Lean function (tested against real Go, not proved from fmt's source: count such statements apart). THE CARD IS WHAT COUNTS. Prove the row's statement (the work); the ties are given (YtfeafhagnhbmiaaGreatDoorTie.lean); close each card by the builder's one call (the guide's Derived/Test/ToyasCard.lean, 'card_holds'). Laid BY PROGRAM, IN A SANDBOX (cutbox-door.mjs). By AI agents, Wed Nov 11 2026. No macro, syntax, notation, axiom, sorry.
-/
import Derived.Test.YtfeafhagnhbmiaaGreatDoorRows
import GoSem.ClaimSeven
namespace Go.Proofs.YtfeafhagnhbmiaaGreatDoor
namespace Rows

/-- THE TIED CARD OF 'signetlaw15.RollKeeps'. -/
def rollKeepsCard : Claim7 := { stood := { row := rollKeepsRow, standIns := [], harness := (true, "cfcc0c365a8028845042d25a93d102e01ada703a11a79fa04646f64ea14a0e6f"), looks := false }, kinds := [], alts := [], laidByText := true, laidKinds := [.data, .pinned], laidTests := true, laidLooks := .later }
def RollKeepsCardSaid : Prop := Claim7.holds Tryz.pinned (.plain (OpenSpec.ofChange rollKeepsSpec)) rollKeepsCard

/-- THE SECOND FORM's CARD OF 'signetlaw15.RollKeeps'. -/
def rollKeepsUptoCard : Claim7 := { stood := { row := rollKeepsUptoRow, standIns := [], harness := (true, "cfcc0c365a8028845042d25a93d102e01ada703a11a79fa04646f64ea14a0e6f"), looks := false }, kinds := [], alts := [], laidByText := true, laidKinds := [.data, .pinned], laidTests := true, laidLooks := .later }
def RollKeepsUptoCardSaid : Prop := Claim7.holds Tryz.pinned (.plain (OpenSpec.upto rollKeepsSpec)) rollKeepsUptoCard
end Rows
end Go.Proofs.YtfeafhagnhbmiaaGreatDoor
