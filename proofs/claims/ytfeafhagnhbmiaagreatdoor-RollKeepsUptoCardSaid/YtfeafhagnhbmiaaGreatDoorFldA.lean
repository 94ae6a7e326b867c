/- FieldQuotes, FieldUnquotes, FieldPrints, FieldGets, FieldParses by FApi. -/
import Derived.Test.YtfeafhagnhbmiaaGreatDoorFldApi
namespace Go.Proofs.YtfeafhagnhbmiaaGreatDoor.fld
open Go.RowKit
open Go.Proofs.YtfeafhagnhbmiaaGreatDoor.oct Go.Proofs.YtfeafhagnhbmiaaGreatDoor.ref Go.Proofs.YtfeafhagnhbmiaaGreatDoor.rows
open Go.Lib (byteCells)

theorem runP_few (ps : List (List UInt8)) (acc : List Pr) (ha : acc.length ≤ 64) : (runP ps acc).2.length ≤ 64 := by
  by_cases h : (runP ps acc).1 = 0
  · obtain ⟨l, _, h2, h3⟩ := runP_zero ps acc ha h
    rw [h3, List.length_append]; exact h2
  · rw [(runP_err ps acc h).1]; simp
theorem parse_few (l : List UInt8) : (parse l).2.length ≤ 64 := by
  unfold parse
  split
  · simp
  · exact runP_few _ _ (by simp)

end Go.Proofs.YtfeafhagnhbmiaaGreatDoor.fld
