/- ScopeBack by SApi. -/
import Derived.Test.YtfeafhagnhbmiaaGreatDoorScpLa
namespace Go.Proofs.YtfeafhagnhbmiaaGreatDoor.scp
open Go.RowKit
open Go.Proofs.YtfeafhagnhbmiaaGreatDoor.oct Go.Proofs.YtfeafhagnhbmiaaGreatDoor.ref Go.Proofs.YtfeafhagnhbmiaaGreatDoor.rows Go.Proofs.YtfeafhagnhbmiaaGreatDoor.rowg

theorem print_le (l : List T) : (printP l).length ≤ (setP l).length * 65 := joinP_le 64 (setP l) (fun x hx => (word_len ((setP_mem l x).1 hx).2).2)
end Go.Proofs.YtfeafhagnhbmiaaGreatDoor.scp
