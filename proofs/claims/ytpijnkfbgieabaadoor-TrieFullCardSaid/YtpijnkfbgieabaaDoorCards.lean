/-
  DERIVED. GIVEN WITH THE SEED: THE CARDS: each row of YtpijnkfbgieabaaDoorRows.lean that lists a variable, with what it lists TIED to the program's text (the seventh form; the later family's looks); each row that meets fmt, with fmt's text TOLD by the authors' own Lean function (tested against real Go, not proved from fmt's source: count such statements apart). THE CARD IS WHAT COUNTS. Prove the row's statement (the work); the ties are given (YtpijnkfbgieabaaDoorTie.lean); close each card by the builder's one call (the guide's Derived/Test/ToyasCard.lean, 'card_holds'). Laid BY PROGRAM, IN A SANDBOX (cutbox-door.mjs). By AI agents, Wed Nov 11 2026. No macro, syntax, notation, axiom, sorry.
-/
import Derived.Test.YtpijnkfbgieabaaDoorRows
import GoSem.ClaimSeven
namespace Go.Proofs.YtpijnkfbgieabaaDoor
namespace Rows

/-- THE TIED CARD OF 'signetlaw13.TriePlays'. -/
def triePlaysCard : Claim7 := { stood := { row := triePlaysRow, standIns := [], harness := (true, "65b7fcaca26368acd7e67b01e3a72f13144f8e8bb500154893a3cf81eb74f731"), looks := false }, kinds := [], alts := [], laidByText := true, laidKinds := [.data, .data], laidTests := true, laidLooks := .later }
def TriePlaysCardSaid : Prop := Claim7.holds Tryd.pinned (.plain (OpenSpec.ofChange triePlaysSpec)) triePlaysCard

/-- THE TIED CARD OF 'signetlaw13.TrieOrders'. -/
def trieOrdersCard : Claim7 := { stood := { row := trieOrdersRow, standIns := [], harness := (true, "65b7fcaca26368acd7e67b01e3a72f13144f8e8bb500154893a3cf81eb74f731"), looks := false }, kinds := [], alts := [], laidByText := true, laidKinds := [.data, .data], laidTests := true, laidLooks := .later }
def TrieOrdersCardSaid : Prop := Claim7.holds Tryd.pinned (.plain (OpenSpec.ofChange trieOrdersSpec)) trieOrdersCard

/-- THE TIED CARD OF 'signetlaw13.TrieMends'. -/
def trieMendsCard : Claim7 := { stood := { row := trieMendsRow, standIns := [], harness := (true, "65b7fcaca26368acd7e67b01e3a72f13144f8e8bb500154893a3cf81eb74f731"), looks := false }, kinds := [], alts := [], laidByText := true, laidKinds := [.data, .data], laidTests := true, laidLooks := .later }
def TrieMendsCardSaid : Prop := Claim7.holds Tryd.pinned (.plain (OpenSpec.ofChange trieMendsSpec)) trieMendsCard

/-- THE TIED CARD OF 'signetlaw13.TriePatches'. -/
def triePatchesCard : Claim7 := { stood := { row := triePatchesRow, standIns := [], harness := (true, "65b7fcaca26368acd7e67b01e3a72f13144f8e8bb500154893a3cf81eb74f731"), looks := false }, kinds := [], alts := [], laidByText := true, laidKinds := [.data, .data], laidTests := true, laidLooks := .later }
def TriePatchesCardSaid : Prop := Claim7.holds Tryd.pinned (.plain (OpenSpec.ofChange triePatchesSpec)) triePatchesCard

/-- THE TIED CARD OF 'signetlaw13.TrieFull'. -/
def trieFullCard : Claim7 := { stood := { row := trieFullRow, standIns := [], harness := (true, "65b7fcaca26368acd7e67b01e3a72f13144f8e8bb500154893a3cf81eb74f731"), looks := false }, kinds := [], alts := [], laidByText := true, laidKinds := [.data, .data], laidTests := true, laidLooks := .later }
def TrieFullCardSaid : Prop := Claim7.holds Tryd.pinned (.plain (OpenSpec.ofChange trieFullSpec)) trieFullCard

/-- THE SECOND FORM's CARD OF 'signetlaw13.TriePlays'. -/
def triePlaysUptoCard : Claim7 := { stood := { row := triePlaysUptoRow, standIns := [], harness := (true, "65b7fcaca26368acd7e67b01e3a72f13144f8e8bb500154893a3cf81eb74f731"), looks := false }, kinds := [], alts := [], laidByText := true, laidKinds := [.data, .data], laidTests := true, laidLooks := .later }
def TriePlaysUptoCardSaid : Prop := Claim7.holds Tryd.pinned (.plain (OpenSpec.upto triePlaysSpec)) triePlaysUptoCard

/-- THE SECOND FORM's CARD OF 'signetlaw13.TrieOrders'. -/
def trieOrdersUptoCard : Claim7 := { stood := { row := trieOrdersUptoRow, standIns := [], harness := (true, "65b7fcaca26368acd7e67b01e3a72f13144f8e8bb500154893a3cf81eb74f731"), looks := false }, kinds := [], alts := [], laidByText := true, laidKinds := [.data, .data], laidTests := true, laidLooks := .later }
def TrieOrdersUptoCardSaid : Prop := Claim7.holds Tryd.pinned (.plain (OpenSpec.upto trieOrdersSpec)) trieOrdersUptoCard

/-- THE SECOND FORM's CARD OF 'signetlaw13.TrieMends'. -/
def trieMendsUptoCard : Claim7 := { stood := { row := trieMendsUptoRow, standIns := [], harness := (true, "65b7fcaca26368acd7e67b01e3a72f13144f8e8bb500154893a3cf81eb74f731"), looks := false }, kinds := [], alts := [], laidByText := true, laidKinds := [.data, .data], laidTests := true, laidLooks := .later }
def TrieMendsUptoCardSaid : Prop := Claim7.holds Tryd.pinned (.plain (OpenSpec.upto trieMendsSpec)) trieMendsUptoCard

/-- THE SECOND FORM's CARD OF 'signetlaw13.TriePatches'. -/
def triePatchesUptoCard : Claim7 := { stood := { row := triePatchesUptoRow, standIns := [], harness := (true, "65b7fcaca26368acd7e67b01e3a72f13144f8e8bb500154893a3cf81eb74f731"), looks := false }, kinds := [], alts := [], laidByText := true, laidKinds := [.data, .data], laidTests := true, laidLooks := .later }
def TriePatchesUptoCardSaid : Prop := Claim7.holds Tryd.pinned (.plain (OpenSpec.upto triePatchesSpec)) triePatchesUptoCard

/-- THE SECOND FORM's CARD OF 'signetlaw13.TrieFull'. -/
def trieFullUptoCard : Claim7 := { stood := { row := trieFullUptoRow, standIns := [], harness := (true, "65b7fcaca26368acd7e67b01e3a72f13144f8e8bb500154893a3cf81eb74f731"), looks := false }, kinds := [], alts := [], laidByText := true, laidKinds := [.data, .data], laidTests := true, laidLooks := .later }
def TrieFullUptoCardSaid : Prop := Claim7.holds Tryd.pinned (.plain (OpenSpec.upto trieFullSpec)) trieFullUptoCard
end Rows
end Go.Proofs.YtpijnkfbgieabaaDoor
