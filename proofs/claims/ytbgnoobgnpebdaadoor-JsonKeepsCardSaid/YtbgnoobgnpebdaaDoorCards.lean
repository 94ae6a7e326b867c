/-
  DERIVED. GIVEN WITH THE SEED: THE CARDS: each row of YtbgnoobgnpebdaaDoorRows.lean that lists a variable, with what it lists TIED to the program's text (the seventh form; the later family's looks); each row that meets fmt, with fmt's text TOLD by the authors' own Lean function (tested against real Go, not proved from fmt's source: count such statements apart). THE CARD IS WHAT COUNTS. Prove the row's statement (the work); the ties are given (YtbgnoobgnpebdaaDoorTie.lean); close each card by the builder's one call (the guide's Derived/Test/ToyasCard.lean, 'card_holds'). Laid BY PROGRAM, IN A SANDBOX (cutbox-door.mjs). By AI agents, Wed Nov 11 2026. No macro, syntax, notation, axiom, sorry.
-/
import Derived.Test.YtbgnoobgnpebdaaDoorRows
import GoSem.ClaimSeven
namespace Go.Proofs.YtbgnoobgnpebdaaDoor
namespace Rows

/-- THE TIED CARD OF 'signetlaw05.JsonPrints'. -/
def jsonPrintsCard : Claim7 := { stood := { row := jsonPrintsRow, standIns := [], harness := (true, "26a9daf62e3db0b3b398e4c24923a3e22f06ae7387812f0074272c1f8a756b53"), looks := true }, kinds := [], alts := [], laidByText := true, laidKinds := [.data, .data, .data, .sentinel, .sentinel], laidTests := true, laidLooks := .later }
def JsonPrintsCardSaid : Prop := Claim7.holds Tryd.pinned (.plain (OpenSpec.ofChange jsonPrintsSpec)) jsonPrintsCard

/-- THE TIED CARD OF 'signetlaw05.JsonParses'. -/
def jsonParsesCard : Claim7 := { stood := { row := jsonParsesRow, standIns := [], harness := (true, "26a9daf62e3db0b3b398e4c24923a3e22f06ae7387812f0074272c1f8a756b53"), looks := true }, kinds := [], alts := [], laidByText := true, laidKinds := [.data, .data, .data, .sentinel, .sentinel], laidTests := true, laidLooks := .later }
def JsonParsesCardSaid : Prop := Claim7.holds Tryd.pinned (.plain (OpenSpec.ofChange jsonParsesSpec)) jsonParsesCard

/-- THE TIED CARD OF 'signetlaw05.JsonBack'. -/
def jsonBackCard : Claim7 := { stood := { row := jsonBackRow, standIns := [], harness := (true, "26a9daf62e3db0b3b398e4c24923a3e22f06ae7387812f0074272c1f8a756b53"), looks := true }, kinds := [], alts := [], laidByText := true, laidKinds := [.data, .data, .data, .sentinel, .sentinel], laidTests := true, laidLooks := .later }
def JsonBackCardSaid : Prop := Claim7.holds Tryd.pinned (.plain (OpenSpec.ofChange jsonBackSpec)) jsonBackCard

/-- THE TIED CARD OF 'signetlaw05.JsonForth'. -/
def jsonForthCard : Claim7 := { stood := { row := jsonForthRow, standIns := [], harness := (true, "26a9daf62e3db0b3b398e4c24923a3e22f06ae7387812f0074272c1f8a756b53"), looks := true }, kinds := [], alts := [], laidByText := true, laidKinds := [.data, .data, .data, .sentinel, .sentinel], laidTests := true, laidLooks := .later }
def JsonForthCardSaid : Prop := Claim7.holds Tryd.pinned (.plain (OpenSpec.ofChange jsonForthSpec)) jsonForthCard

/-- THE TIED CARD OF 'signetlaw05.JsonUnlike'. -/
def jsonUnlikeCard : Claim7 := { stood := { row := jsonUnlikeRow, standIns := [], harness := (true, "26a9daf62e3db0b3b398e4c24923a3e22f06ae7387812f0074272c1f8a756b53"), looks := true }, kinds := [], alts := [], laidByText := true, laidKinds := [.data, .data, .data, .sentinel, .sentinel], laidTests := true, laidLooks := .later }
def JsonUnlikeCardSaid : Prop := Claim7.holds Tryd.pinned (.plain (OpenSpec.ofChange jsonUnlikeSpec)) jsonUnlikeCard

/-- THE TIED CARD OF 'signetlaw05.JsonMakes'. -/
def jsonMakesCard : Claim7 := { stood := { row := jsonMakesRow, standIns := [], harness := (true, "26a9daf62e3db0b3b398e4c24923a3e22f06ae7387812f0074272c1f8a756b53"), looks := true }, kinds := [], alts := [], laidByText := true, laidKinds := [.data, .data, .data, .sentinel, .sentinel], laidTests := true, laidLooks := .later }
def JsonMakesCardSaid : Prop := Claim7.holds Tryd.pinned (.plain (OpenSpec.ofChange jsonMakesSpec)) jsonMakesCard

/-- THE TIED CARD OF 'signetlaw05.JsonKeeps'. -/
def jsonKeepsCard : Claim7 := { stood := { row := jsonKeepsRow, standIns := [], harness := (true, "26a9daf62e3db0b3b398e4c24923a3e22f06ae7387812f0074272c1f8a756b53"), looks := true }, kinds := [], alts := [], laidByText := true, laidKinds := [.data, .data, .data, .sentinel, .sentinel], laidTests := true, laidLooks := .later }
def JsonKeepsCardSaid : Prop := Claim7.holds Tryd.pinned (.plain (OpenSpec.ofChange jsonKeepsSpec)) jsonKeepsCard

/-- THE SECOND FORM's CARD OF 'signetlaw05.JsonPrints'. -/
def jsonPrintsUptoCard : Claim7 := { stood := { row := jsonPrintsUptoRow, standIns := [], harness := (true, "26a9daf62e3db0b3b398e4c24923a3e22f06ae7387812f0074272c1f8a756b53"), looks := true }, kinds := [], alts := [], laidByText := true, laidKinds := [.data, .data, .data, .sentinel, .sentinel], laidTests := true, laidLooks := .later }
def JsonPrintsUptoCardSaid : Prop := Claim7.holds Tryd.pinned (.plain (OpenSpec.upto jsonPrintsSpec)) jsonPrintsUptoCard

/-- THE SECOND FORM's CARD OF 'signetlaw05.JsonParses'. -/
def jsonParsesUptoCard : Claim7 := { stood := { row := jsonParsesUptoRow, standIns := [], harness := (true, "26a9daf62e3db0b3b398e4c24923a3e22f06ae7387812f0074272c1f8a756b53"), looks := true }, kinds := [], alts := [], laidByText := true, laidKinds := [.data, .data, .data, .sentinel, .sentinel], laidTests := true, laidLooks := .later }
def JsonParsesUptoCardSaid : Prop := Claim7.holds Tryd.pinned (.plain (OpenSpec.upto jsonParsesSpec)) jsonParsesUptoCard

/-- THE SECOND FORM's CARD OF 'signetlaw05.JsonBack'. -/
def jsonBackUptoCard : Claim7 := { stood := { row := jsonBackUptoRow, standIns := [], harness := (true, "26a9daf62e3db0b3b398e4c24923a3e22f06ae7387812f0074272c1f8a756b53"), looks := true }, kinds := [], alts := [], laidByText := true, laidKinds := [.data, .data, .data, .sentinel, .sentinel], laidTests := true, laidLooks := .later }
def JsonBackUptoCardSaid : Prop := Claim7.holds Tryd.pinned (.plain (OpenSpec.upto jsonBackSpec)) jsonBackUptoCard

/-- THE SECOND FORM's CARD OF 'signetlaw05.JsonForth'. -/
def jsonForthUptoCard : Claim7 := { stood := { row := jsonForthUptoRow, standIns := [], harness := (true, "26a9daf62e3db0b3b398e4c24923a3e22f06ae7387812f0074272c1f8a756b53"), looks := true }, kinds := [], alts := [], laidByText := true, laidKinds := [.data, .data, .data, .sentinel, .sentinel], laidTests := true, laidLooks := .later }
def JsonForthUptoCardSaid : Prop := Claim7.holds Tryd.pinned (.plain (OpenSpec.upto jsonForthSpec)) jsonForthUptoCard

/-- THE SECOND FORM's CARD OF 'signetlaw05.JsonUnlike'. -/
def jsonUnlikeUptoCard : Claim7 := { stood := { row := jsonUnlikeUptoRow, standIns := [], harness := (true, "26a9daf62e3db0b3b398e4c24923a3e22f06ae7387812f0074272c1f8a756b53"), looks := true }, kinds := [], alts := [], laidByText := true, laidKinds := [.data, .data, .data, .sentinel, .sentinel], laidTests := true, laidLooks := .later }
def JsonUnlikeUptoCardSaid : Prop := Claim7.holds Tryd.pinned (.plain (OpenSpec.upto jsonUnlikeSpec)) jsonUnlikeUptoCard

/-- THE SECOND FORM's CARD OF 'signetlaw05.JsonMakes'. -/
def jsonMakesUptoCard : Claim7 := { stood := { row := jsonMakesUptoRow, standIns := [], harness := (true, "26a9daf62e3db0b3b398e4c24923a3e22f06ae7387812f0074272c1f8a756b53"), looks := true }, kinds := [], alts := [], laidByText := true, laidKinds := [.data, .data, .data, .sentinel, .sentinel], laidTests := true, laidLooks := .later }
def JsonMakesUptoCardSaid : Prop := Claim7.holds Tryd.pinned (.plain (OpenSpec.upto jsonMakesSpec)) jsonMakesUptoCard

/-- THE SECOND FORM's CARD OF 'signetlaw05.JsonKeeps'. -/
def jsonKeepsUptoCard : Claim7 := { stood := { row := jsonKeepsUptoRow, standIns := [], harness := (true, "26a9daf62e3db0b3b398e4c24923a3e22f06ae7387812f0074272c1f8a756b53"), looks := true }, kinds := [], alts := [], laidByText := true, laidKinds := [.data, .data, .data, .sentinel, .sentinel], laidTests := true, laidLooks := .later }
def JsonKeepsUptoCardSaid : Prop := Claim7.holds Tryd.pinned (.plain (OpenSpec.upto jsonKeepsSpec)) jsonKeepsUptoCard
end Rows
end Go.Proofs.YtbgnoobgnpebdaaDoor
