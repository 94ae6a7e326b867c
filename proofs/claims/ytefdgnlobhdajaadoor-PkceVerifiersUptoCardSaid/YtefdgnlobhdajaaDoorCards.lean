/-
  DERIVED. GIVEN WITH THE SEED: THE CARDS: each row of YtefdgnlobhdajaaDoorRows.lean that lists a variable, with what it lists TIED to the program's text (the seventh form; the later family's looks); each row that meets fmt, with fmt's text TOLD by the authors' own Lean function (tested against real Go, not proved from fmt's source: count such statements apart). THE CARD IS WHAT COUNTS. Prove the row's statement (the work); the ties are given (YtefdgnlobhdajaaDoorTie.lean); close each card by the builder's one call (the guide's Derived/Test/ToyasCard.lean, 'card_holds'). Laid BY PROGRAM, IN A SANDBOX (cutbox-door.mjs). By AI agents, Wed Nov 11 2026. No macro, syntax, notation, axiom, sorry.
-/
import Derived.Test.YtefdgnlobhdajaaDoorRows
import GoSem.ClaimSeven
namespace Go.Proofs.YtefdgnlobhdajaaDoor
namespace Rows

/-- THE TIED CARD OF 'signetlaw07.PkceVerifiers'. -/
def pkceVerifiersCard : Claim7 := { stood := { row := pkceVerifiersRow, standIns := [], harness := (true, "386fd291f19781bfe5ad4c25e847353725aebc8ae84dbe81647ff57588d0afaa"), looks := false }, kinds := [], alts := [], laidByText := true, laidKinds := [.data, .data], laidTests := true, laidLooks := .later }
def PkceVerifiersCardSaid : Prop := Claim7.holds Tryd.pinned (.plain (OpenSpec.ofChange pkceVerifiersSpec)) pkceVerifiersCard

/-- THE TIED CARD OF 'signetlaw07.PkceChallenges'. -/
def pkceChallengesCard : Claim7 := { stood := { row := pkceChallengesRow, standIns := [], harness := (true, "386fd291f19781bfe5ad4c25e847353725aebc8ae84dbe81647ff57588d0afaa"), looks := false }, kinds := [], alts := [], laidByText := true, laidKinds := [.data, .data], laidTests := true, laidLooks := .later }
def PkceChallengesCardSaid : Prop := Claim7.holds Tryd.pinned (.plain (OpenSpec.ofChange pkceChallengesSpec)) pkceChallengesCard

/-- THE TIED CARD OF 'signetlaw07.PkceChecks'. -/
def pkceChecksCard : Claim7 := { stood := { row := pkceChecksRow, standIns := [], harness := (true, "386fd291f19781bfe5ad4c25e847353725aebc8ae84dbe81647ff57588d0afaa"), looks := false }, kinds := [], alts := [], laidByText := true, laidKinds := [.data, .data], laidTests := true, laidLooks := .later }
def PkceChecksCardSaid : Prop := Claim7.holds Tryd.pinned (.plain (OpenSpec.ofChange pkceChecksSpec)) pkceChecksCard

/-- THE TIED CARD OF 'signetlaw07.PkceBack'. -/
def pkceBackCard : Claim7 := { stood := { row := pkceBackRow, standIns := [], harness := (true, "386fd291f19781bfe5ad4c25e847353725aebc8ae84dbe81647ff57588d0afaa"), looks := false }, kinds := [], alts := [], laidByText := true, laidKinds := [.data, .data], laidTests := true, laidLooks := .later }
def PkceBackCardSaid : Prop := Claim7.holds Tryd.pinned (.plain (OpenSpec.ofChange pkceBackSpec)) pkceBackCard

/-- THE SECOND FORM's CARD OF 'signetlaw07.PkceVerifiers'. -/
def pkceVerifiersUptoCard : Claim7 := { stood := { row := pkceVerifiersUptoRow, standIns := [], harness := (true, "386fd291f19781bfe5ad4c25e847353725aebc8ae84dbe81647ff57588d0afaa"), looks := false }, kinds := [], alts := [], laidByText := true, laidKinds := [.data, .data], laidTests := true, laidLooks := .later }
def PkceVerifiersUptoCardSaid : Prop := Claim7.holds Tryd.pinned (.plain (OpenSpec.upto pkceVerifiersSpec)) pkceVerifiersUptoCard

/-- THE SECOND FORM's CARD OF 'signetlaw07.PkceChallenges'. -/
def pkceChallengesUptoCard : Claim7 := { stood := { row := pkceChallengesUptoRow, standIns := [], harness := (true, "386fd291f19781bfe5ad4c25e847353725aebc8ae84dbe81647ff57588d0afaa"), looks := false }, kinds := [], alts := [], laidByText := true, laidKinds := [.data, .data], laidTests := true, laidLooks := .later }
def PkceChallengesUptoCardSaid : Prop := Claim7.holds Tryd.pinned (.plain (OpenSpec.upto pkceChallengesSpec)) pkceChallengesUptoCard

/-- THE SECOND FORM's CARD OF 'signetlaw07.PkceChecks'. -/
def pkceChecksUptoCard : Claim7 := { stood := { row := pkceChecksUptoRow, standIns := [], harness := (true, "386fd291f19781bfe5ad4c25e847353725aebc8ae84dbe81647ff57588d0afaa"), looks := false }, kinds := [], alts := [], laidByText := true, laidKinds := [.data, .data], laidTests := true, laidLooks := .later }
def PkceChecksUptoCardSaid : Prop := Claim7.holds Tryd.pinned (.plain (OpenSpec.upto pkceChecksSpec)) pkceChecksUptoCard

/-- THE SECOND FORM's CARD OF 'signetlaw07.PkceBack'. -/
def pkceBackUptoCard : Claim7 := { stood := { row := pkceBackUptoRow, standIns := [], harness := (true, "386fd291f19781bfe5ad4c25e847353725aebc8ae84dbe81647ff57588d0afaa"), looks := false }, kinds := [], alts := [], laidByText := true, laidKinds := [.data, .data], laidTests := true, laidLooks := .later }
def PkceBackUptoCardSaid : Prop := Claim7.holds Tryd.pinned (.plain (OpenSpec.upto pkceBackSpec)) pkceBackUptoCard
end Rows
end Go.Proofs.YtefdgnlobhdajaaDoor
