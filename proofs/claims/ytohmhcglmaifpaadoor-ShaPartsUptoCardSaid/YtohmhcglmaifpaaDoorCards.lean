/-
  DERIVED. GIVEN WITH THE SEED: THE CARDS: each row of YtohmhcglmaifpaaDoorRows.lean that lists a variable, with what it lists TIED to the program's text (the seventh form; the later family's looks); each row that meets fmt, with fmt's text TOLD by the authors' own Lean function (tested against real Go, not proved from fmt's source: count such statements apart). THE CARD IS WHAT COUNTS. Prove the row's statement (the work); the ties are given (YtohmhcglmaifpaaDoorTie.lean); close each card by the builder's one call (the guide's Derived/Test/ToyasCard.lean, 'card_holds'). Laid BY PROGRAM, IN A SANDBOX (cutbox-door.mjs). By AI agents, Wed Nov 11 2026. No macro, syntax, notation, axiom, sorry.
-/
import Derived.Test.YtohmhcglmaifpaaDoorRows
import GoSem.ClaimSeven
namespace Go.Proofs.YtohmhcglmaifpaaDoor
namespace Rows

/-- THE TIED CARD OF 'signetlaw03.ShaSums'. -/
def shaSumsCard : Claim7 := { stood := { row := shaSumsRow, standIns := [], harness := (true, "007fb02d7c97d2799e1e4f364c8be8335f4538a89108bb6ccfc4ce8c6e85f2ef"), looks := false }, kinds := [], alts := [], laidByText := true, laidKinds := [.data, .data], laidTests := true, laidLooks := .later }
def ShaSumsCardSaid : Prop := Claim7.holds Tryd.pinned (.plain (OpenSpec.ofChange shaSumsSpec)) shaSumsCard

/-- THE TIED CARD OF 'signetlaw03.ShaMacs'. -/
def shaMacsCard : Claim7 := { stood := { row := shaMacsRow, standIns := [], harness := (true, "007fb02d7c97d2799e1e4f364c8be8335f4538a89108bb6ccfc4ce8c6e85f2ef"), looks := false }, kinds := [], alts := [], laidByText := true, laidKinds := [.data, .data], laidTests := true, laidLooks := .later }
def ShaMacsCardSaid : Prop := Claim7.holds Tryd.pinned (.plain (OpenSpec.ofChange shaMacsSpec)) shaMacsCard

/-- THE TIED CARD OF 'signetlaw03.ShaParts'. -/
def shaPartsCard : Claim7 := { stood := { row := shaPartsRow, standIns := [], harness := (true, "007fb02d7c97d2799e1e4f364c8be8335f4538a89108bb6ccfc4ce8c6e85f2ef"), looks := false }, kinds := [], alts := [], laidByText := true, laidKinds := [.data, .data], laidTests := true, laidLooks := .later }
def ShaPartsCardSaid : Prop := Claim7.holds Tryd.pinned (.plain (OpenSpec.ofChange shaPartsSpec)) shaPartsCard

/-- THE TIED CARD OF 'signetlaw03.ShaOn'. -/
def shaOnCard : Claim7 := { stood := { row := shaOnRow, standIns := [], harness := (true, "007fb02d7c97d2799e1e4f364c8be8335f4538a89108bb6ccfc4ce8c6e85f2ef"), looks := false }, kinds := [], alts := [], laidByText := true, laidKinds := [.data, .data], laidTests := true, laidLooks := .later }
def ShaOnCardSaid : Prop := Claim7.holds Tryd.pinned (.plain (OpenSpec.ofChange shaOnSpec)) shaOnCard

/-- THE TIED CARD OF 'signetlaw03.ShaApart'. -/
def shaApartCard : Claim7 := { stood := { row := shaApartRow, standIns := [], harness := (true, "007fb02d7c97d2799e1e4f364c8be8335f4538a89108bb6ccfc4ce8c6e85f2ef"), looks := false }, kinds := [], alts := [], laidByText := true, laidKinds := [.data, .data], laidTests := true, laidLooks := .later }
def ShaApartCardSaid : Prop := Claim7.holds Tryd.pinned (.plain (OpenSpec.ofChange shaApartSpec)) shaApartCard

/-- THE TIED CARD OF 'signetlaw03.ShaLongKeys'. -/
def shaLongKeysCard : Claim7 := { stood := { row := shaLongKeysRow, standIns := [], harness := (true, "007fb02d7c97d2799e1e4f364c8be8335f4538a89108bb6ccfc4ce8c6e85f2ef"), looks := false }, kinds := [], alts := [], laidByText := true, laidKinds := [.data, .data], laidTests := true, laidLooks := .later }
def ShaLongKeysCardSaid : Prop := Claim7.holds Tryd.pinned (.plain (OpenSpec.ofChange shaLongKeysSpec)) shaLongKeysCard

/-- THE TIED CARD OF 'signetlaw03.ShaNil'. -/
def shaNilCard : Claim7 := { stood := { row := shaNilRow, standIns := [], harness := (true, "007fb02d7c97d2799e1e4f364c8be8335f4538a89108bb6ccfc4ce8c6e85f2ef"), looks := false }, kinds := [], alts := [], laidByText := true, laidKinds := [.data, .data], laidTests := true, laidLooks := .later }
def ShaNilCardSaid : Prop := Claim7.holds Tryd.pinned (.plain (OpenSpec.ofChange shaNilSpec)) shaNilCard

/-- THE TIED CARD OF 'signetlaw03.ShaKeeps'. -/
def shaKeepsCard : Claim7 := { stood := { row := shaKeepsRow, standIns := [], harness := (true, "007fb02d7c97d2799e1e4f364c8be8335f4538a89108bb6ccfc4ce8c6e85f2ef"), looks := false }, kinds := [], alts := [], laidByText := true, laidKinds := [.data, .data], laidTests := true, laidLooks := .later }
def ShaKeepsCardSaid : Prop := Claim7.holds Tryd.pinned (.plain (OpenSpec.ofChange shaKeepsSpec)) shaKeepsCard

/-- THE SECOND FORM's CARD OF 'signetlaw03.ShaSums'. -/
def shaSumsUptoCard : Claim7 := { stood := { row := shaSumsUptoRow, standIns := [], harness := (true, "007fb02d7c97d2799e1e4f364c8be8335f4538a89108bb6ccfc4ce8c6e85f2ef"), looks := false }, kinds := [], alts := [], laidByText := true, laidKinds := [.data, .data], laidTests := true, laidLooks := .later }
def ShaSumsUptoCardSaid : Prop := Claim7.holds Tryd.pinned (.plain (OpenSpec.upto shaSumsSpec)) shaSumsUptoCard

/-- THE SECOND FORM's CARD OF 'signetlaw03.ShaMacs'. -/
def shaMacsUptoCard : Claim7 := { stood := { row := shaMacsUptoRow, standIns := [], harness := (true, "007fb02d7c97d2799e1e4f364c8be8335f4538a89108bb6ccfc4ce8c6e85f2ef"), looks := false }, kinds := [], alts := [], laidByText := true, laidKinds := [.data, .data], laidTests := true, laidLooks := .later }
def ShaMacsUptoCardSaid : Prop := Claim7.holds Tryd.pinned (.plain (OpenSpec.upto shaMacsSpec)) shaMacsUptoCard

/-- THE SECOND FORM's CARD OF 'signetlaw03.ShaParts'. -/
def shaPartsUptoCard : Claim7 := { stood := { row := shaPartsUptoRow, standIns := [], harness := (true, "007fb02d7c97d2799e1e4f364c8be8335f4538a89108bb6ccfc4ce8c6e85f2ef"), looks := false }, kinds := [], alts := [], laidByText := true, laidKinds := [.data, .data], laidTests := true, laidLooks := .later }
def ShaPartsUptoCardSaid : Prop := Claim7.holds Tryd.pinned (.plain (OpenSpec.upto shaPartsSpec)) shaPartsUptoCard

/-- THE SECOND FORM's CARD OF 'signetlaw03.ShaOn'. -/
def shaOnUptoCard : Claim7 := { stood := { row := shaOnUptoRow, standIns := [], harness := (true, "007fb02d7c97d2799e1e4f364c8be8335f4538a89108bb6ccfc4ce8c6e85f2ef"), looks := false }, kinds := [], alts := [], laidByText := true, laidKinds := [.data, .data], laidTests := true, laidLooks := .later }
def ShaOnUptoCardSaid : Prop := Claim7.holds Tryd.pinned (.plain (OpenSpec.upto shaOnSpec)) shaOnUptoCard

/-- THE SECOND FORM's CARD OF 'signetlaw03.ShaApart'. -/
def shaApartUptoCard : Claim7 := { stood := { row := shaApartUptoRow, standIns := [], harness := (true, "007fb02d7c97d2799e1e4f364c8be8335f4538a89108bb6ccfc4ce8c6e85f2ef"), looks := false }, kinds := [], alts := [], laidByText := true, laidKinds := [.data, .data], laidTests := true, laidLooks := .later }
def ShaApartUptoCardSaid : Prop := Claim7.holds Tryd.pinned (.plain (OpenSpec.upto shaApartSpec)) shaApartUptoCard

/-- THE SECOND FORM's CARD OF 'signetlaw03.ShaLongKeys'. -/
def shaLongKeysUptoCard : Claim7 := { stood := { row := shaLongKeysUptoRow, standIns := [], harness := (true, "007fb02d7c97d2799e1e4f364c8be8335f4538a89108bb6ccfc4ce8c6e85f2ef"), looks := false }, kinds := [], alts := [], laidByText := true, laidKinds := [.data, .data], laidTests := true, laidLooks := .later }
def ShaLongKeysUptoCardSaid : Prop := Claim7.holds Tryd.pinned (.plain (OpenSpec.upto shaLongKeysSpec)) shaLongKeysUptoCard

/-- THE SECOND FORM's CARD OF 'signetlaw03.ShaNil'. -/
def shaNilUptoCard : Claim7 := { stood := { row := shaNilUptoRow, standIns := [], harness := (true, "007fb02d7c97d2799e1e4f364c8be8335f4538a89108bb6ccfc4ce8c6e85f2ef"), looks := false }, kinds := [], alts := [], laidByText := true, laidKinds := [.data, .data], laidTests := true, laidLooks := .later }
def ShaNilUptoCardSaid : Prop := Claim7.holds Tryd.pinned (.plain (OpenSpec.upto shaNilSpec)) shaNilUptoCard

/-- THE SECOND FORM's CARD OF 'signetlaw03.ShaKeeps'. -/
def shaKeepsUptoCard : Claim7 := { stood := { row := shaKeepsUptoRow, standIns := [], harness := (true, "007fb02d7c97d2799e1e4f364c8be8335f4538a89108bb6ccfc4ce8c6e85f2ef"), looks := false }, kinds := [], alts := [], laidByText := true, laidKinds := [.data, .data], laidTests := true, laidLooks := .later }
def ShaKeepsUptoCardSaid : Prop := Claim7.holds Tryd.pinned (.plain (OpenSpec.upto shaKeepsSpec)) shaKeepsUptoCard
end Rows
end Go.Proofs.YtohmhcglmaifpaaDoor
