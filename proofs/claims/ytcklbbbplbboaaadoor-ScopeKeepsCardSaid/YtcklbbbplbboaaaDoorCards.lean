/-
  DERIVED. GIVEN WITH THE SEED: THE CARDS: each row of YtcklbbbplbboaaaDoorRows.lean that lists a variable, with what it lists TIED to the program's text (the seventh form; the later family's looks); each row that meets fmt, with fmt's text TOLD by the authors' own Lean function (tested against real Go, not proved from fmt's source: count such statements apart). THE CARD IS WHAT COUNTS. Prove the row's statement (the work); the ties are given (YtcklbbbplbboaaaDoorTie.lean); close each card by the builder's one call (the guide's Derived/Test/ToyasCard.lean, 'card_holds'). Laid BY PROGRAM, IN A SANDBOX (cutbox-door.mjs). By AI agents, Wed Nov 11 2026. No macro, syntax, notation, axiom, sorry.
-/
import Derived.Test.YtcklbbbplbboaaaDoorRows
import GoSem.ClaimSeven
namespace Go.Proofs.YtcklbbbplbboaaaDoor
namespace Rows

/-- THE TIED CARD OF 'signetlaw06.ScopeWords'. -/
def scopeWordsCard : Claim7 := { stood := { row := scopeWordsRow, standIns := [], harness := (true, "d31c976fd0695513b25fab89cd2407a9f41f01528d2d3efcdd879af782f8e1e3"), looks := false }, kinds := [], alts := [], laidByText := true, laidKinds := [.data, .pinned], laidTests := true, laidLooks := .later }
def ScopeWordsCardSaid : Prop := Claim7.holds Tryd.pinned (.plain (OpenSpec.ofChange scopeWordsSpec)) scopeWordsCard

/-- THE TIED CARD OF 'signetlaw06.ScopeSets'. -/
def scopeSetsCard : Claim7 := { stood := { row := scopeSetsRow, standIns := [], harness := (true, "d31c976fd0695513b25fab89cd2407a9f41f01528d2d3efcdd879af782f8e1e3"), looks := false }, kinds := [], alts := [], laidByText := true, laidKinds := [.data, .pinned], laidTests := true, laidLooks := .later }
def ScopeSetsCardSaid : Prop := Claim7.holds Tryd.pinned (.plain (OpenSpec.ofChange scopeSetsSpec)) scopeSetsCard

/-- THE TIED CARD OF 'signetlaw06.ScopeParses'. -/
def scopeParsesCard : Claim7 := { stood := { row := scopeParsesRow, standIns := [], harness := (true, "d31c976fd0695513b25fab89cd2407a9f41f01528d2d3efcdd879af782f8e1e3"), looks := false }, kinds := [], alts := [], laidByText := true, laidKinds := [.data, .pinned], laidTests := true, laidLooks := .later }
def ScopeParsesCardSaid : Prop := Claim7.holds Tryd.pinned (.plain (OpenSpec.ofChange scopeParsesSpec)) scopeParsesCard

/-- THE TIED CARD OF 'signetlaw06.ScopeMeets'. -/
def scopeMeetsCard : Claim7 := { stood := { row := scopeMeetsRow, standIns := [], harness := (true, "d31c976fd0695513b25fab89cd2407a9f41f01528d2d3efcdd879af782f8e1e3"), looks := false }, kinds := [], alts := [], laidByText := true, laidKinds := [.data, .pinned], laidTests := true, laidLooks := .later }
def ScopeMeetsCardSaid : Prop := Claim7.holds Tryd.pinned (.plain (OpenSpec.ofChange scopeMeetsSpec)) scopeMeetsCard

/-- THE TIED CARD OF 'signetlaw06.ScopeBack'. -/
def scopeBackCard : Claim7 := { stood := { row := scopeBackRow, standIns := [], harness := (true, "d31c976fd0695513b25fab89cd2407a9f41f01528d2d3efcdd879af782f8e1e3"), looks := false }, kinds := [], alts := [], laidByText := true, laidKinds := [.data, .pinned], laidTests := true, laidLooks := .later }
def ScopeBackCardSaid : Prop := Claim7.holds Tryd.pinned (.plain (OpenSpec.ofChange scopeBackSpec)) scopeBackCard

/-- THE TIED CARD OF 'signetlaw06.ScopeOrders'. -/
def scopeOrdersCard : Claim7 := { stood := { row := scopeOrdersRow, standIns := [], harness := (true, "d31c976fd0695513b25fab89cd2407a9f41f01528d2d3efcdd879af782f8e1e3"), looks := false }, kinds := [], alts := [], laidByText := true, laidKinds := [.data, .pinned], laidTests := true, laidLooks := .later }
def ScopeOrdersCardSaid : Prop := Claim7.holds Tryd.pinned (.plain (OpenSpec.ofChange scopeOrdersSpec)) scopeOrdersCard

/-- THE TIED CARD OF 'signetlaw06.ScopeKeeps'. -/
def scopeKeepsCard : Claim7 := { stood := { row := scopeKeepsRow, standIns := [], harness := (true, "d31c976fd0695513b25fab89cd2407a9f41f01528d2d3efcdd879af782f8e1e3"), looks := false }, kinds := [], alts := [], laidByText := true, laidKinds := [.data, .pinned], laidTests := true, laidLooks := .later }
def ScopeKeepsCardSaid : Prop := Claim7.holds Tryd.pinned (.plain (OpenSpec.ofChange scopeKeepsSpec)) scopeKeepsCard

/-- THE SECOND FORM's CARD OF 'signetlaw06.ScopeWords'. -/
def scopeWordsUptoCard : Claim7 := { stood := { row := scopeWordsUptoRow, standIns := [], harness := (true, "d31c976fd0695513b25fab89cd2407a9f41f01528d2d3efcdd879af782f8e1e3"), looks := false }, kinds := [], alts := [], laidByText := true, laidKinds := [.data, .pinned], laidTests := true, laidLooks := .later }
def ScopeWordsUptoCardSaid : Prop := Claim7.holds Tryd.pinned (.plain (OpenSpec.upto scopeWordsSpec)) scopeWordsUptoCard

/-- THE SECOND FORM's CARD OF 'signetlaw06.ScopeSets'. -/
def scopeSetsUptoCard : Claim7 := { stood := { row := scopeSetsUptoRow, standIns := [], harness := (true, "d31c976fd0695513b25fab89cd2407a9f41f01528d2d3efcdd879af782f8e1e3"), looks := false }, kinds := [], alts := [], laidByText := true, laidKinds := [.data, .pinned], laidTests := true, laidLooks := .later }
def ScopeSetsUptoCardSaid : Prop := Claim7.holds Tryd.pinned (.plain (OpenSpec.upto scopeSetsSpec)) scopeSetsUptoCard

/-- THE SECOND FORM's CARD OF 'signetlaw06.ScopeParses'. -/
def scopeParsesUptoCard : Claim7 := { stood := { row := scopeParsesUptoRow, standIns := [], harness := (true, "d31c976fd0695513b25fab89cd2407a9f41f01528d2d3efcdd879af782f8e1e3"), looks := false }, kinds := [], alts := [], laidByText := true, laidKinds := [.data, .pinned], laidTests := true, laidLooks := .later }
def ScopeParsesUptoCardSaid : Prop := Claim7.holds Tryd.pinned (.plain (OpenSpec.upto scopeParsesSpec)) scopeParsesUptoCard

/-- THE SECOND FORM's CARD OF 'signetlaw06.ScopeMeets'. -/
def scopeMeetsUptoCard : Claim7 := { stood := { row := scopeMeetsUptoRow, standIns := [], harness := (true, "d31c976fd0695513b25fab89cd2407a9f41f01528d2d3efcdd879af782f8e1e3"), looks := false }, kinds := [], alts := [], laidByText := true, laidKinds := [.data, .pinned], laidTests := true, laidLooks := .later }
def ScopeMeetsUptoCardSaid : Prop := Claim7.holds Tryd.pinned (.plain (OpenSpec.upto scopeMeetsSpec)) scopeMeetsUptoCard

/-- THE SECOND FORM's CARD OF 'signetlaw06.ScopeBack'. -/
def scopeBackUptoCard : Claim7 := { stood := { row := scopeBackUptoRow, standIns := [], harness := (true, "d31c976fd0695513b25fab89cd2407a9f41f01528d2d3efcdd879af782f8e1e3"), looks := false }, kinds := [], alts := [], laidByText := true, laidKinds := [.data, .pinned], laidTests := true, laidLooks := .later }
def ScopeBackUptoCardSaid : Prop := Claim7.holds Tryd.pinned (.plain (OpenSpec.upto scopeBackSpec)) scopeBackUptoCard

/-- THE SECOND FORM's CARD OF 'signetlaw06.ScopeOrders'. -/
def scopeOrdersUptoCard : Claim7 := { stood := { row := scopeOrdersUptoRow, standIns := [], harness := (true, "d31c976fd0695513b25fab89cd2407a9f41f01528d2d3efcdd879af782f8e1e3"), looks := false }, kinds := [], alts := [], laidByText := true, laidKinds := [.data, .pinned], laidTests := true, laidLooks := .later }
def ScopeOrdersUptoCardSaid : Prop := Claim7.holds Tryd.pinned (.plain (OpenSpec.upto scopeOrdersSpec)) scopeOrdersUptoCard

/-- THE SECOND FORM's CARD OF 'signetlaw06.ScopeKeeps'. -/
def scopeKeepsUptoCard : Claim7 := { stood := { row := scopeKeepsUptoRow, standIns := [], harness := (true, "d31c976fd0695513b25fab89cd2407a9f41f01528d2d3efcdd879af782f8e1e3"), looks := false }, kinds := [], alts := [], laidByText := true, laidKinds := [.data, .pinned], laidTests := true, laidLooks := .later }
def ScopeKeepsUptoCardSaid : Prop := Claim7.holds Tryd.pinned (.plain (OpenSpec.upto scopeKeepsSpec)) scopeKeepsUptoCard
end Rows
end Go.Proofs.YtcklbbbplbboaaaDoor
