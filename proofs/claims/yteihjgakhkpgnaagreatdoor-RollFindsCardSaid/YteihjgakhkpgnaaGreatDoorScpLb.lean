/- ScopeBack by SApi. -/
import Derived.Test.YteihjgakhkpgnaaGreatDoorScpLa
namespace Go.Proofs.YteihjgakhkpgnaaGreatDoor.scp
open Go.RowKit
open Go.Proofs.YteihjgakhkpgnaaGreatDoor.oct Go.Proofs.YteihjgakhkpgnaaGreatDoor.ref Go.Proofs.YteihjgakhkpgnaaGreatDoor.rows Go.Proofs.YteihjgakhkpgnaaGreatDoor.rowg

theorem print_le (l : List T) : (printP l).length ≤ (setP l).length * 65 := joinP_le 64 (setP l) (fun x hx => (word_len ((setP_mem l x).1 hx).2).2)
end Go.Proofs.YteihjgakhkpgnaaGreatDoor.scp
