/-
  DERIVED. GIVEN WITH THE SEED: THE CARDS: each row of YtddihhpahghajaaDoorRows.lean that lists a variable, with what it lists TIED to the program's text (the seventh form; the later family's looks); each row that meets fmt, with fmt's text TOLD by the authors' own Lean function (tested against real Go, not proved from fmt's source: count such statements apart). THE CARD IS WHAT COUNTS. Prove the row's statement (the work); the ties are given (YtddihhpahghajaaDoorTie.lean); close each card by the builder's one call (the guide's Derived/Test/ToyasCard.lean, 'card_holds'). Laid BY PROGRAM, IN A SANDBOX (cutbox-door.mjs). By AI agents, Wed Nov 11 2026. No macro, syntax, notation, axiom, sorry.
-/
import Derived.Test.YtddihhpahghajaaDoorRows
import GoSem.ClaimSeven
namespace Go.Proofs.YtddihhpahghajaaDoor
namespace Rows

/-- THE TIED CARD OF 'signetlaw01.OctetHexes'. -/
def octetHexesCard : Claim7 := { stood := { row := octetHexesRow, standIns := [], harness := (true, "a310401028ab6d659569c5e74d9bfbe3c9b08d0b55a3a47ac7b77b92c74a26e8"), looks := false }, kinds := [], alts := [], laidByText := true, laidKinds := [.data, .pinned], laidTests := true, laidLooks := .later }
def OctetHexesCardSaid : Prop := Claim7.holds Tryd.pinned (.plain (OpenSpec.ofChange octetHexesSpec)) octetHexesCard

/-- THE TIED CARD OF 'signetlaw01.OctetUnhexes'. -/
def octetUnhexesCard : Claim7 := { stood := { row := octetUnhexesRow, standIns := [], harness := (true, "a310401028ab6d659569c5e74d9bfbe3c9b08d0b55a3a47ac7b77b92c74a26e8"), looks := false }, kinds := [], alts := [], laidByText := true, laidKinds := [.data, .pinned], laidTests := true, laidLooks := .later }
def OctetUnhexesCardSaid : Prop := Claim7.holds Tryd.pinned (.plain (OpenSpec.ofChange octetUnhexesSpec)) octetUnhexesCard

/-- THE TIED CARD OF 'signetlaw01.OctetWebs'. -/
def octetWebsCard : Claim7 := { stood := { row := octetWebsRow, standIns := [], harness := (true, "a310401028ab6d659569c5e74d9bfbe3c9b08d0b55a3a47ac7b77b92c74a26e8"), looks := false }, kinds := [], alts := [], laidByText := true, laidKinds := [.data, .pinned], laidTests := true, laidLooks := .later }
def OctetWebsCardSaid : Prop := Claim7.holds Tryd.pinned (.plain (OpenSpec.ofChange octetWebsSpec)) octetWebsCard

/-- THE TIED CARD OF 'signetlaw01.OctetUnwebs'. -/
def octetUnwebsCard : Claim7 := { stood := { row := octetUnwebsRow, standIns := [], harness := (true, "a310401028ab6d659569c5e74d9bfbe3c9b08d0b55a3a47ac7b77b92c74a26e8"), looks := false }, kinds := [], alts := [], laidByText := true, laidKinds := [.data, .pinned], laidTests := true, laidLooks := .later }
def OctetUnwebsCardSaid : Prop := Claim7.holds Tryd.pinned (.plain (OpenSpec.ofChange octetUnwebsSpec)) octetUnwebsCard

/-- THE TIED CARD OF 'signetlaw01.OctetBasics'. -/
def octetBasicsCard : Claim7 := { stood := { row := octetBasicsRow, standIns := [], harness := (true, "a310401028ab6d659569c5e74d9bfbe3c9b08d0b55a3a47ac7b77b92c74a26e8"), looks := false }, kinds := [], alts := [], laidByText := true, laidKinds := [.data, .pinned], laidTests := true, laidLooks := .later }
def OctetBasicsCardSaid : Prop := Claim7.holds Tryd.pinned (.plain (OpenSpec.ofChange octetBasicsSpec)) octetBasicsCard

/-- THE TIED CARD OF 'signetlaw01.OctetUnbasics'. -/
def octetUnbasicsCard : Claim7 := { stood := { row := octetUnbasicsRow, standIns := [], harness := (true, "a310401028ab6d659569c5e74d9bfbe3c9b08d0b55a3a47ac7b77b92c74a26e8"), looks := false }, kinds := [], alts := [], laidByText := true, laidKinds := [.data, .pinned], laidTests := true, laidLooks := .later }
def OctetUnbasicsCardSaid : Prop := Claim7.holds Tryd.pinned (.plain (OpenSpec.ofChange octetUnbasicsSpec)) octetUnbasicsCard

/-- THE TIED CARD OF 'signetlaw01.OctetBack'. -/
def octetBackCard : Claim7 := { stood := { row := octetBackRow, standIns := [], harness := (true, "a310401028ab6d659569c5e74d9bfbe3c9b08d0b55a3a47ac7b77b92c74a26e8"), looks := false }, kinds := [], alts := [], laidByText := true, laidKinds := [.data, .pinned], laidTests := true, laidLooks := .later }
def OctetBackCardSaid : Prop := Claim7.holds Tryd.pinned (.plain (OpenSpec.ofChange octetBackSpec)) octetBackCard

/-- THE TIED CARD OF 'signetlaw01.OctetForth'. -/
def octetForthCard : Claim7 := { stood := { row := octetForthRow, standIns := [], harness := (true, "a310401028ab6d659569c5e74d9bfbe3c9b08d0b55a3a47ac7b77b92c74a26e8"), looks := false }, kinds := [], alts := [], laidByText := true, laidKinds := [.data, .pinned], laidTests := true, laidLooks := .later }
def OctetForthCardSaid : Prop := Claim7.holds Tryd.pinned (.plain (OpenSpec.ofChange octetForthSpec)) octetForthCard

/-- THE TIED CARD OF 'signetlaw01.OctetLengths'. -/
def octetLengthsCard : Claim7 := { stood := { row := octetLengthsRow, standIns := [], harness := (true, "a310401028ab6d659569c5e74d9bfbe3c9b08d0b55a3a47ac7b77b92c74a26e8"), looks := false }, kinds := [], alts := [], laidByText := true, laidKinds := [.data, .pinned], laidTests := true, laidLooks := .later }
def OctetLengthsCardSaid : Prop := Claim7.holds Tryd.pinned (.plain (OpenSpec.ofChange octetLengthsSpec)) octetLengthsCard

/-- THE TIED CARD OF 'signetlaw01.OctetJoins'. -/
def octetJoinsCard : Claim7 := { stood := { row := octetJoinsRow, standIns := [], harness := (true, "a310401028ab6d659569c5e74d9bfbe3c9b08d0b55a3a47ac7b77b92c74a26e8"), looks := false }, kinds := [], alts := [], laidByText := true, laidKinds := [.data, .pinned], laidTests := true, laidLooks := .later }
def OctetJoinsCardSaid : Prop := Claim7.holds Tryd.pinned (.plain (OpenSpec.ofChange octetJoinsSpec)) octetJoinsCard

/-- THE TIED CARD OF 'signetlaw01.OctetSame'. -/
def octetSameCard : Claim7 := { stood := { row := octetSameRow, standIns := [], harness := (true, "a310401028ab6d659569c5e74d9bfbe3c9b08d0b55a3a47ac7b77b92c74a26e8"), looks := false }, kinds := [], alts := [], laidByText := true, laidKinds := [.data, .pinned], laidTests := true, laidLooks := .later }
def OctetSameCardSaid : Prop := Claim7.holds Tryd.pinned (.plain (OpenSpec.ofChange octetSameSpec)) octetSameCard

/-- THE TIED CARD OF 'signetlaw01.OctetKeeps'. -/
def octetKeepsCard : Claim7 := { stood := { row := octetKeepsRow, standIns := [], harness := (true, "a310401028ab6d659569c5e74d9bfbe3c9b08d0b55a3a47ac7b77b92c74a26e8"), looks := false }, kinds := [], alts := [], laidByText := true, laidKinds := [.data, .pinned], laidTests := true, laidLooks := .later }
def OctetKeepsCardSaid : Prop := Claim7.holds Tryd.pinned (.plain (OpenSpec.ofChange octetKeepsSpec)) octetKeepsCard

/-- THE SECOND FORM's CARD OF 'signetlaw01.OctetHexes'. -/
def octetHexesUptoCard : Claim7 := { stood := { row := octetHexesUptoRow, standIns := [], harness := (true, "a310401028ab6d659569c5e74d9bfbe3c9b08d0b55a3a47ac7b77b92c74a26e8"), looks := false }, kinds := [], alts := [], laidByText := true, laidKinds := [.data, .pinned], laidTests := true, laidLooks := .later }
def OctetHexesUptoCardSaid : Prop := Claim7.holds Tryd.pinned (.plain (OpenSpec.upto octetHexesSpec)) octetHexesUptoCard

/-- THE SECOND FORM's CARD OF 'signetlaw01.OctetUnhexes'. -/
def octetUnhexesUptoCard : Claim7 := { stood := { row := octetUnhexesUptoRow, standIns := [], harness := (true, "a310401028ab6d659569c5e74d9bfbe3c9b08d0b55a3a47ac7b77b92c74a26e8"), looks := false }, kinds := [], alts := [], laidByText := true, laidKinds := [.data, .pinned], laidTests := true, laidLooks := .later }
def OctetUnhexesUptoCardSaid : Prop := Claim7.holds Tryd.pinned (.plain (OpenSpec.upto octetUnhexesSpec)) octetUnhexesUptoCard

/-- THE SECOND FORM's CARD OF 'signetlaw01.OctetWebs'. -/
def octetWebsUptoCard : Claim7 := { stood := { row := octetWebsUptoRow, standIns := [], harness := (true, "a310401028ab6d659569c5e74d9bfbe3c9b08d0b55a3a47ac7b77b92c74a26e8"), looks := false }, kinds := [], alts := [], laidByText := true, laidKinds := [.data, .pinned], laidTests := true, laidLooks := .later }
def OctetWebsUptoCardSaid : Prop := Claim7.holds Tryd.pinned (.plain (OpenSpec.upto octetWebsSpec)) octetWebsUptoCard

/-- THE SECOND FORM's CARD OF 'signetlaw01.OctetUnwebs'. -/
def octetUnwebsUptoCard : Claim7 := { stood := { row := octetUnwebsUptoRow, standIns := [], harness := (true, "a310401028ab6d659569c5e74d9bfbe3c9b08d0b55a3a47ac7b77b92c74a26e8"), looks := false }, kinds := [], alts := [], laidByText := true, laidKinds := [.data, .pinned], laidTests := true, laidLooks := .later }
def OctetUnwebsUptoCardSaid : Prop := Claim7.holds Tryd.pinned (.plain (OpenSpec.upto octetUnwebsSpec)) octetUnwebsUptoCard

/-- THE SECOND FORM's CARD OF 'signetlaw01.OctetBasics'. -/
def octetBasicsUptoCard : Claim7 := { stood := { row := octetBasicsUptoRow, standIns := [], harness := (true, "a310401028ab6d659569c5e74d9bfbe3c9b08d0b55a3a47ac7b77b92c74a26e8"), looks := false }, kinds := [], alts := [], laidByText := true, laidKinds := [.data, .pinned], laidTests := true, laidLooks := .later }
def OctetBasicsUptoCardSaid : Prop := Claim7.holds Tryd.pinned (.plain (OpenSpec.upto octetBasicsSpec)) octetBasicsUptoCard

/-- THE SECOND FORM's CARD OF 'signetlaw01.OctetUnbasics'. -/
def octetUnbasicsUptoCard : Claim7 := { stood := { row := octetUnbasicsUptoRow, standIns := [], harness := (true, "a310401028ab6d659569c5e74d9bfbe3c9b08d0b55a3a47ac7b77b92c74a26e8"), looks := false }, kinds := [], alts := [], laidByText := true, laidKinds := [.data, .pinned], laidTests := true, laidLooks := .later }
def OctetUnbasicsUptoCardSaid : Prop := Claim7.holds Tryd.pinned (.plain (OpenSpec.upto octetUnbasicsSpec)) octetUnbasicsUptoCard

/-- THE SECOND FORM's CARD OF 'signetlaw01.OctetBack'. -/
def octetBackUptoCard : Claim7 := { stood := { row := octetBackUptoRow, standIns := [], harness := (true, "a310401028ab6d659569c5e74d9bfbe3c9b08d0b55a3a47ac7b77b92c74a26e8"), looks := false }, kinds := [], alts := [], laidByText := true, laidKinds := [.data, .pinned], laidTests := true, laidLooks := .later }
def OctetBackUptoCardSaid : Prop := Claim7.holds Tryd.pinned (.plain (OpenSpec.upto octetBackSpec)) octetBackUptoCard

/-- THE SECOND FORM's CARD OF 'signetlaw01.OctetForth'. -/
def octetForthUptoCard : Claim7 := { stood := { row := octetForthUptoRow, standIns := [], harness := (true, "a310401028ab6d659569c5e74d9bfbe3c9b08d0b55a3a47ac7b77b92c74a26e8"), looks := false }, kinds := [], alts := [], laidByText := true, laidKinds := [.data, .pinned], laidTests := true, laidLooks := .later }
def OctetForthUptoCardSaid : Prop := Claim7.holds Tryd.pinned (.plain (OpenSpec.upto octetForthSpec)) octetForthUptoCard

/-- THE SECOND FORM's CARD OF 'signetlaw01.OctetLengths'. -/
def octetLengthsUptoCard : Claim7 := { stood := { row := octetLengthsUptoRow, standIns := [], harness := (true, "a310401028ab6d659569c5e74d9bfbe3c9b08d0b55a3a47ac7b77b92c74a26e8"), looks := false }, kinds := [], alts := [], laidByText := true, laidKinds := [.data, .pinned], laidTests := true, laidLooks := .later }
def OctetLengthsUptoCardSaid : Prop := Claim7.holds Tryd.pinned (.plain (OpenSpec.upto octetLengthsSpec)) octetLengthsUptoCard

/-- THE SECOND FORM's CARD OF 'signetlaw01.OctetJoins'. -/
def octetJoinsUptoCard : Claim7 := { stood := { row := octetJoinsUptoRow, standIns := [], harness := (true, "a310401028ab6d659569c5e74d9bfbe3c9b08d0b55a3a47ac7b77b92c74a26e8"), looks := false }, kinds := [], alts := [], laidByText := true, laidKinds := [.data, .pinned], laidTests := true, laidLooks := .later }
def OctetJoinsUptoCardSaid : Prop := Claim7.holds Tryd.pinned (.plain (OpenSpec.upto octetJoinsSpec)) octetJoinsUptoCard

/-- THE SECOND FORM's CARD OF 'signetlaw01.OctetSame'. -/
def octetSameUptoCard : Claim7 := { stood := { row := octetSameUptoRow, standIns := [], harness := (true, "a310401028ab6d659569c5e74d9bfbe3c9b08d0b55a3a47ac7b77b92c74a26e8"), looks := false }, kinds := [], alts := [], laidByText := true, laidKinds := [.data, .pinned], laidTests := true, laidLooks := .later }
def OctetSameUptoCardSaid : Prop := Claim7.holds Tryd.pinned (.plain (OpenSpec.upto octetSameSpec)) octetSameUptoCard

/-- THE SECOND FORM's CARD OF 'signetlaw01.OctetKeeps'. -/
def octetKeepsUptoCard : Claim7 := { stood := { row := octetKeepsUptoRow, standIns := [], harness := (true, "a310401028ab6d659569c5e74d9bfbe3c9b08d0b55a3a47ac7b77b92c74a26e8"), looks := false }, kinds := [], alts := [], laidByText := true, laidKinds := [.data, .pinned], laidTests := true, laidLooks := .later }
def OctetKeepsUptoCardSaid : Prop := Claim7.holds Tryd.pinned (.plain (OpenSpec.upto octetKeepsSpec)) octetKeepsUptoCard
end Rows
end Go.Proofs.YtddihhpahghajaaDoor
