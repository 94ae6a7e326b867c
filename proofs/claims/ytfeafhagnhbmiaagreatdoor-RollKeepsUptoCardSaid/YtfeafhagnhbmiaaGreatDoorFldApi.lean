/- What the laws of field ask of the program's calls (FApi: each answers the plain forms; T: what of the package's variables they need); the fixed question; FieldQuotes, FieldUnquotes, FieldPrints, FieldGets, FieldParses by it. -/
import Derived.Test.YtfeafhagnhbmiaaGreatDoorGfld
namespace Go.Proofs.YtfeafhagnhbmiaaGreatDoor.fld
open Go.RowKit
open Go.Proofs.YtfeafhagnhbmiaaGreatDoor.oct Go.Proofs.YtfeafhagnhbmiaaGreatDoor.ref Go.Proofs.YtfeafhagnhbmiaaGreatDoor.rows
open Go.Lib (byteCells)

/-- values that fit a row -/
def Vals (ps : List Pr) : Prop := ∀ x ∈ ps, x.2.length ≤ 140737488355328
theorem vals_small {ps : List Pr} (h : Small ps) : Vals ps := fun x hx => Nat.le_trans (h x hx).2 (by decide)
/-- names and values within the reach -/
def Fit (ps : List Pr) : Prop := ∀ x ∈ ps, x.1.length ≤ 140737488351232 ∧ x.2.length ≤ 140737488351232
theorem fit_small {ps : List Pr} (h : Small ps) : Fit ps := fun x hx => ⟨Nat.le_trans (h x hx).1 (by decide), Nat.le_trans (h x hx).2 (by decide)⟩
theorem vals_fit {ps : List Pr} (h : Fit ps) : Vals ps := fun x hx => Nat.le_trans (h x hx).2 (by decide)
theorem unq_plain1 : unq [97] = some [97] ∧ unq [49] = some [49] ∧ unq [98, 43, 99] = some [98, 32, 99] ∧ unq [] = some [] ∧ unq [120, 61, 121] = some [120, 61, 121] := by
  refine ⟨?_, ?_, ?_, ?_, ?_⟩ <;> simp [unq_cons, unq]
theorem known_parse : parse [38, 97, 61, 49, 38, 38, 98, 43, 99, 38, 61, 120, 61, 121] = (0, [([97], [49]), ([98, 32, 99], []), ([], [120, 61, 121])]) := by
  obtain ⟨h1, h2, h3, h4, h5⟩ := unq_plain1
  have e : pieces [38, 97, 61, 49, 38, 38, 98, 43, 99, 38, 61, 120, 61, 121] = [[97, 61, 49], [98, 43, 99], [61, 120, 61, 121]] := by decide
  have p1 : pairOf [97, 61, 49] = some ([97], [49]) := by
    unfold pairOf
    rw [show cutEq [97, 61, 49] = ([97], [49]) from by decide]
    simp only [h1, h2]
  have p2 : pairOf [98, 43, 99] = some ([98, 32, 99], []) := by
    unfold pairOf
    rw [show cutEq [98, 43, 99] = ([98, 43, 99], []) from by decide]
    simp only [h3, h4]
  have p3 : pairOf [61, 120, 61, 121] = some ([], [120, 61, 121]) := by
    unfold pairOf
    rw [show cutEq [61, 120, 61, 121] = ([], [120, 61, 121]) from by decide]
    simp only [h4, h5]
  unfold parse
  rw [if_neg (by decide), e]
  simp [runP, p1, p2, p3]
theorem known_quote : quote [97, 32, 98, 38] = [97, 43, 98, 37, 50, 54] := by decide

end Go.Proofs.YtfeafhagnhbmiaaGreatDoor.fld
