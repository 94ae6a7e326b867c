/-
  DERIVED. GIVEN WITH THE SEED: THE CARDS: each row of YtjadginnaogjoaaDoorRows.lean that lists a variable, with what it lists TIED to the program's text (the seventh form; the later family's looks); each row that meets fmt, with fmt's text TOLD by the authors' own Lean function (tested against real Go, not proved from fmt's source: count such statements apart). THE CARD IS WHAT COUNTS. Prove the row's statement (the work); the ties are given (YtjadginnaogjoaaDoorTie.lean); close each card by the builder's one call (the guide's Derived/Test/ToyasCard.lean, 'card_holds'). Laid BY PROGRAM, IN A SANDBOX (cutbox-door.mjs). By AI agents, Wed Nov 11 2026. No macro, syntax, notation, axiom, sorry.
-/
import Derived.Test.YtjadginnaogjoaaDoorRows
import GoSem.ClaimSeven
namespace Go.Proofs.YtjadginnaogjoaaDoor
namespace Rows

/-- THE TIED CARD OF 'signetlaw16.SealMakes'. -/
def sealMakesCard : Claim7 := { stood := { row := sealMakesRow, standIns := [], harness := (true, "e18a96ad0166620f2058a4b0e7d82e46841704618088c499493a13f115a07cf9"), looks := true }, kinds := [], alts := [], laidByText := true, laidKinds := [.data, .data, .data, .data, .data, .sentinel, .sentinel, .data], laidTests := true, laidLooks := .later }
def SealMakesCardSaid : Prop := Claim7.holds Tryd.pinned (.plain (OpenSpec.ofChange sealMakesSpec)) sealMakesCard

/-- THE TIED CARD OF 'signetlaw16.SealPeeks'. -/
def sealPeeksCard : Claim7 := { stood := { row := sealPeeksRow, standIns := [], harness := (true, "e18a96ad0166620f2058a4b0e7d82e46841704618088c499493a13f115a07cf9"), looks := true }, kinds := [], alts := [], laidByText := true, laidKinds := [.data, .data, .data, .data, .data, .sentinel, .sentinel, .data], laidTests := true, laidLooks := .later }
def SealPeeksCardSaid : Prop := Claim7.holds Tryd.pinned (.plain (OpenSpec.ofChange sealPeeksSpec)) sealPeeksCard

/-- THE TIED CARD OF 'signetlaw16.SealBack'. -/
def sealBackCard : Claim7 := { stood := { row := sealBackRow, standIns := [], harness := (true, "e18a96ad0166620f2058a4b0e7d82e46841704618088c499493a13f115a07cf9"), looks := true }, kinds := [], alts := [], laidByText := true, laidKinds := [.data, .data, .data, .data, .data, .sentinel, .sentinel, .data], laidTests := true, laidLooks := .later }
def SealBackCardSaid : Prop := Claim7.holds Tryd.pinned (.plain (OpenSpec.ofChange sealBackSpec)) sealBackCard

/-- THE TIED CARD OF 'signetlaw16.SealAlone'. -/
def sealAloneCard : Claim7 := { stood := { row := sealAloneRow, standIns := [], harness := (true, "e18a96ad0166620f2058a4b0e7d82e46841704618088c499493a13f115a07cf9"), looks := true }, kinds := [], alts := [], laidByText := true, laidKinds := [.data, .data, .data, .data, .data, .sentinel, .sentinel, .data], laidTests := true, laidLooks := .later }
def SealAloneCardSaid : Prop := Claim7.holds Tryd.pinned (.plain (OpenSpec.ofChange sealAloneSpec)) sealAloneCard

/-- THE TIED CARD OF 'signetlaw16.SealTags'. -/
def sealTagsCard : Claim7 := { stood := { row := sealTagsRow, standIns := [], harness := (true, "e18a96ad0166620f2058a4b0e7d82e46841704618088c499493a13f115a07cf9"), looks := true }, kinds := [], alts := [], laidByText := true, laidKinds := [.data, .data, .data, .data, .data, .sentinel, .sentinel, .data], laidTests := true, laidLooks := .later }
def SealTagsCardSaid : Prop := Claim7.holds Tryd.pinned (.plain (OpenSpec.ofChange sealTagsSpec)) sealTagsCard

/-- THE SECOND FORM's CARD OF 'signetlaw16.SealMakes'. -/
def sealMakesUptoCard : Claim7 := { stood := { row := sealMakesUptoRow, standIns := [], harness := (true, "e18a96ad0166620f2058a4b0e7d82e46841704618088c499493a13f115a07cf9"), looks := true }, kinds := [], alts := [], laidByText := true, laidKinds := [.data, .data, .data, .data, .data, .sentinel, .sentinel, .data], laidTests := true, laidLooks := .later }
def SealMakesUptoCardSaid : Prop := Claim7.holds Tryd.pinned (.plain (OpenSpec.upto sealMakesSpec)) sealMakesUptoCard

/-- THE SECOND FORM's CARD OF 'signetlaw16.SealPeeks'. -/
def sealPeeksUptoCard : Claim7 := { stood := { row := sealPeeksUptoRow, standIns := [], harness := (true, "e18a96ad0166620f2058a4b0e7d82e46841704618088c499493a13f115a07cf9"), looks := true }, kinds := [], alts := [], laidByText := true, laidKinds := [.data, .data, .data, .data, .data, .sentinel, .sentinel, .data], laidTests := true, laidLooks := .later }
def SealPeeksUptoCardSaid : Prop := Claim7.holds Tryd.pinned (.plain (OpenSpec.upto sealPeeksSpec)) sealPeeksUptoCard

/-- THE SECOND FORM's CARD OF 'signetlaw16.SealBack'. -/
def sealBackUptoCard : Claim7 := { stood := { row := sealBackUptoRow, standIns := [], harness := (true, "e18a96ad0166620f2058a4b0e7d82e46841704618088c499493a13f115a07cf9"), looks := true }, kinds := [], alts := [], laidByText := true, laidKinds := [.data, .data, .data, .data, .data, .sentinel, .sentinel, .data], laidTests := true, laidLooks := .later }
def SealBackUptoCardSaid : Prop := Claim7.holds Tryd.pinned (.plain (OpenSpec.upto sealBackSpec)) sealBackUptoCard

/-- THE SECOND FORM's CARD OF 'signetlaw16.SealAlone'. -/
def sealAloneUptoCard : Claim7 := { stood := { row := sealAloneUptoRow, standIns := [], harness := (true, "e18a96ad0166620f2058a4b0e7d82e46841704618088c499493a13f115a07cf9"), looks := true }, kinds := [], alts := [], laidByText := true, laidKinds := [.data, .data, .data, .data, .data, .sentinel, .sentinel, .data], laidTests := true, laidLooks := .later }
def SealAloneUptoCardSaid : Prop := Claim7.holds Tryd.pinned (.plain (OpenSpec.upto sealAloneSpec)) sealAloneUptoCard

/-- THE SECOND FORM's CARD OF 'signetlaw16.SealTags'. -/
def sealTagsUptoCard : Claim7 := { stood := { row := sealTagsUptoRow, standIns := [], harness := (true, "e18a96ad0166620f2058a4b0e7d82e46841704618088c499493a13f115a07cf9"), looks := true }, kinds := [], alts := [], laidByText := true, laidKinds := [.data, .data, .data, .data, .data, .sentinel, .sentinel, .data], laidTests := true, laidLooks := .later }
def SealTagsUptoCardSaid : Prop := Claim7.holds Tryd.pinned (.plain (OpenSpec.upto sealTagsSpec)) sealTagsUptoCard
end Rows
end Go.Proofs.YtjadginnaogjoaaDoor
