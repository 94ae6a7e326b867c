/-
  DERIVED. GIVEN WITH THE SEED: THE CARDS: each row of YthagdkipipldlaaGreatDoorRows.lean that lists a variable, with what it lists TIED to the program's text (the seventh form; the later family's looks); each row that meets fmt, with fmt's text TOLD by the authors' own Lean function (tested against real Go, not proved from fmt's source: count such statements apart). THE CARD IS WHAT COUNTS. Prove the row's statement (the work); the ties are given (YthagdkipipldlaaGreatDoorTie.lean); close each card by the builder's one call (the guide's Derived/Test/ToyasCard.lean, 'card_holds'). Laid BY PROGRAM, IN A SANDBOX (cutbox-door.mjs). By AI agents, Wed Nov 11 2026. No macro, syntax, notation, axiom, sorry.
-/
import Derived.Test.YthagdkipipldlaaGreatDoorRows
import GoSem.ClaimSeven
namespace Go.Proofs.YthagdkipipldlaaGreatDoor
namespace Rows

/-- THE TIED CARD OF 'signetlaw17.GrantDoes'. -/
def grantDoesCard : Claim7 := { stood := { row := grantDoesRow, standIns := [], harness := (true, "e8a7db4629a3b59eb45e010765af98d737adc1c1e79b35ba922fc772460e477e"), looks := false }, kinds := [], alts := [], laidByText := true, laidKinds := [.data, .data], laidTests := true, laidLooks := .later }
def GrantDoesCardSaid : Prop := Claim7.holds Tryz.pinned (.plain (OpenSpec.ofChange grantDoesSpec)) grantDoesCard

/-- THE TIED CARD OF 'signetlaw17.GrantMay'. -/
def grantMayCard : Claim7 := { stood := { row := grantMayRow, standIns := [], harness := (true, "e8a7db4629a3b59eb45e010765af98d737adc1c1e79b35ba922fc772460e477e"), looks := false }, kinds := [], alts := [], laidByText := true, laidKinds := [.data, .data], laidTests := true, laidLooks := .later }
def GrantMayCardSaid : Prop := Claim7.holds Tryz.pinned (.plain (OpenSpec.ofChange grantMaySpec)) grantMayCard

/-- THE TIED CARD OF 'signetlaw17.GrantOnce'. -/
def grantOnceCard : Claim7 := { stood := { row := grantOnceRow, standIns := [], harness := (true, "e8a7db4629a3b59eb45e010765af98d737adc1c1e79b35ba922fc772460e477e"), looks := false }, kinds := [], alts := [], laidByText := true, laidKinds := [.data, .data], laidTests := true, laidLooks := .later }
def GrantOnceCardSaid : Prop := Claim7.holds Tryz.pinned (.plain (OpenSpec.ofChange grantOnceSpec)) grantOnceCard

/-- THE TIED CARD OF 'signetlaw17.GrantFalls'. -/
def grantFallsCard : Claim7 := { stood := { row := grantFallsRow, standIns := [], harness := (true, "e8a7db4629a3b59eb45e010765af98d737adc1c1e79b35ba922fc772460e477e"), looks := false }, kinds := [], alts := [], laidByText := true, laidKinds := [.data, .data], laidTests := true, laidLooks := .later }
def GrantFallsCardSaid : Prop := Claim7.holds Tryz.pinned (.plain (OpenSpec.ofChange grantFallsSpec)) grantFallsCard

/-- THE TIED CARD OF 'signetlaw17.GrantOthers'. -/
def grantOthersCard : Claim7 := { stood := { row := grantOthersRow, standIns := [], harness := (true, "e8a7db4629a3b59eb45e010765af98d737adc1c1e79b35ba922fc772460e477e"), looks := false }, kinds := [], alts := [], laidByText := true, laidKinds := [.data, .data], laidTests := true, laidLooks := .later }
def GrantOthersCardSaid : Prop := Claim7.holds Tryz.pinned (.plain (OpenSpec.ofChange grantOthersSpec)) grantOthersCard

/-- THE TIED CARD OF 'signetlaw17.GrantNarrow'. -/
def grantNarrowCard : Claim7 := { stood := { row := grantNarrowRow, standIns := [], harness := (true, "e8a7db4629a3b59eb45e010765af98d737adc1c1e79b35ba922fc772460e477e"), looks := false }, kinds := [], alts := [], laidByText := true, laidKinds := [.data, .data], laidTests := true, laidLooks := .later }
def GrantNarrowCardSaid : Prop := Claim7.holds Tryz.pinned (.plain (OpenSpec.ofChange grantNarrowSpec)) grantNarrowCard

/-- THE TIED CARD OF 'signetlaw17.GrantFull'. -/
def grantFullCard : Claim7 := { stood := { row := grantFullRow, standIns := [], harness := (true, "e8a7db4629a3b59eb45e010765af98d737adc1c1e79b35ba922fc772460e477e"), looks := false }, kinds := [], alts := [], laidByText := true, laidKinds := [.data, .data], laidTests := true, laidLooks := .later }
def GrantFullCardSaid : Prop := Claim7.holds Tryz.pinned (.plain (OpenSpec.ofChange grantFullSpec)) grantFullCard

/-- THE TIED CARD OF 'signetlaw17.GrantPuts'. -/
def grantPutsCard : Claim7 := { stood := { row := grantPutsRow, standIns := [], harness := (true, "e8a7db4629a3b59eb45e010765af98d737adc1c1e79b35ba922fc772460e477e"), looks := false }, kinds := [], alts := [], laidByText := true, laidKinds := [.data, .data], laidTests := true, laidLooks := .later }
def GrantPutsCardSaid : Prop := Claim7.holds Tryz.pinned (.plain (OpenSpec.ofChange grantPutsSpec)) grantPutsCard

/-- THE TIED CARD OF 'signetlaw17.GrantCopies'. -/
def grantCopiesCard : Claim7 := { stood := { row := grantCopiesRow, standIns := [], harness := (true, "e8a7db4629a3b59eb45e010765af98d737adc1c1e79b35ba922fc772460e477e"), looks := false }, kinds := [], alts := [], laidByText := true, laidKinds := [.data, .data], laidTests := true, laidLooks := .later }
def GrantCopiesCardSaid : Prop := Claim7.holds Tryz.pinned (.plain (OpenSpec.ofChange grantCopiesSpec)) grantCopiesCard

/-- THE SECOND FORM's CARD OF 'signetlaw17.GrantDoes'. -/
def grantDoesUptoCard : Claim7 := { stood := { row := grantDoesUptoRow, standIns := [], harness := (true, "e8a7db4629a3b59eb45e010765af98d737adc1c1e79b35ba922fc772460e477e"), looks := false }, kinds := [], alts := [], laidByText := true, laidKinds := [.data, .data], laidTests := true, laidLooks := .later }
def GrantDoesUptoCardSaid : Prop := Claim7.holds Tryz.pinned (.plain (OpenSpec.upto grantDoesSpec)) grantDoesUptoCard

/-- THE SECOND FORM's CARD OF 'signetlaw17.GrantMay'. -/
def grantMayUptoCard : Claim7 := { stood := { row := grantMayUptoRow, standIns := [], harness := (true, "e8a7db4629a3b59eb45e010765af98d737adc1c1e79b35ba922fc772460e477e"), looks := false }, kinds := [], alts := [], laidByText := true, laidKinds := [.data, .data], laidTests := true, laidLooks := .later }
def GrantMayUptoCardSaid : Prop := Claim7.holds Tryz.pinned (.plain (OpenSpec.upto grantMaySpec)) grantMayUptoCard

/-- THE SECOND FORM's CARD OF 'signetlaw17.GrantOnce'. -/
def grantOnceUptoCard : Claim7 := { stood := { row := grantOnceUptoRow, standIns := [], harness := (true, "e8a7db4629a3b59eb45e010765af98d737adc1c1e79b35ba922fc772460e477e"), looks := false }, kinds := [], alts := [], laidByText := true, laidKinds := [.data, .data], laidTests := true, laidLooks := .later }
def GrantOnceUptoCardSaid : Prop := Claim7.holds Tryz.pinned (.plain (OpenSpec.upto grantOnceSpec)) grantOnceUptoCard

/-- THE SECOND FORM's CARD OF 'signetlaw17.GrantFalls'. -/
def grantFallsUptoCard : Claim7 := { stood := { row := grantFallsUptoRow, standIns := [], harness := (true, "e8a7db4629a3b59eb45e010765af98d737adc1c1e79b35ba922fc772460e477e"), looks := false }, kinds := [], alts := [], laidByText := true, laidKinds := [.data, .data], laidTests := true, laidLooks := .later }
def GrantFallsUptoCardSaid : Prop := Claim7.holds Tryz.pinned (.plain (OpenSpec.upto grantFallsSpec)) grantFallsUptoCard

/-- THE SECOND FORM's CARD OF 'signetlaw17.GrantOthers'. -/
def grantOthersUptoCard : Claim7 := { stood := { row := grantOthersUptoRow, standIns := [], harness := (true, "e8a7db4629a3b59eb45e010765af98d737adc1c1e79b35ba922fc772460e477e"), looks := false }, kinds := [], alts := [], laidByText := true, laidKinds := [.data, .data], laidTests := true, laidLooks := .later }
def GrantOthersUptoCardSaid : Prop := Claim7.holds Tryz.pinned (.plain (OpenSpec.upto grantOthersSpec)) grantOthersUptoCard

/-- THE SECOND FORM's CARD OF 'signetlaw17.GrantNarrow'. -/
def grantNarrowUptoCard : Claim7 := { stood := { row := grantNarrowUptoRow, standIns := [], harness := (true, "e8a7db4629a3b59eb45e010765af98d737adc1c1e79b35ba922fc772460e477e"), looks := false }, kinds := [], alts := [], laidByText := true, laidKinds := [.data, .data], laidTests := true, laidLooks := .later }
def GrantNarrowUptoCardSaid : Prop := Claim7.holds Tryz.pinned (.plain (OpenSpec.upto grantNarrowSpec)) grantNarrowUptoCard

/-- THE SECOND FORM's CARD OF 'signetlaw17.GrantFull'. -/
def grantFullUptoCard : Claim7 := { stood := { row := grantFullUptoRow, standIns := [], harness := (true, "e8a7db4629a3b59eb45e010765af98d737adc1c1e79b35ba922fc772460e477e"), looks := false }, kinds := [], alts := [], laidByText := true, laidKinds := [.data, .data], laidTests := true, laidLooks := .later }
def GrantFullUptoCardSaid : Prop := Claim7.holds Tryz.pinned (.plain (OpenSpec.upto grantFullSpec)) grantFullUptoCard

/-- THE SECOND FORM's CARD OF 'signetlaw17.GrantPuts'. -/
def grantPutsUptoCard : Claim7 := { stood := { row := grantPutsUptoRow, standIns := [], harness := (true, "e8a7db4629a3b59eb45e010765af98d737adc1c1e79b35ba922fc772460e477e"), looks := false }, kinds := [], alts := [], laidByText := true, laidKinds := [.data, .data], laidTests := true, laidLooks := .later }
def GrantPutsUptoCardSaid : Prop := Claim7.holds Tryz.pinned (.plain (OpenSpec.upto grantPutsSpec)) grantPutsUptoCard

/-- THE SECOND FORM's CARD OF 'signetlaw17.GrantCopies'. -/
def grantCopiesUptoCard : Claim7 := { stood := { row := grantCopiesUptoRow, standIns := [], harness := (true, "e8a7db4629a3b59eb45e010765af98d737adc1c1e79b35ba922fc772460e477e"), looks := false }, kinds := [], alts := [], laidByText := true, laidKinds := [.data, .data], laidTests := true, laidLooks := .later }
def GrantCopiesUptoCardSaid : Prop := Claim7.holds Tryz.pinned (.plain (OpenSpec.upto grantCopiesSpec)) grantCopiesUptoCard
end Rows
end Go.Proofs.YthagdkipipldlaaGreatDoor
