/- What the laws of pkce ask of the program's calls (PApi: each answers the plain forms; T': what of the package's variables they need); the fixed question. -/
import Derived.Test.YthagdkipipldlaaGreatDoorGpkc
namespace Go.Proofs.YthagdkipipldlaaGreatDoor.pkc
open Go.RowKit
open Go.Proofs.YthagdkipipldlaaGreatDoor.oct Go.Proofs.YthagdkipipldlaaGreatDoor.ref Go.Proofs.YthagdkipipldlaaGreatDoor.rows Go.Proofs.YthagdkipipldlaaGreatDoor.sha

structure PApi (T' : World → Prop) : Prop where
  tbelow : ∀ w w', T' w → Below w.heap.size w w' → T' w'
  isv : ∀ l w, T' w → l.length ≤ 140737488355328 → Calls Tryz.prog 170 #[txt l] w fun e w' => e = .returned (.bool (verB l)) ∧ Below w.heap.size w w'
  may : ∀ c m w, T' w → c.length ≤ 140737488355328 → m.length ≤ 140737488355328 → Calls Tryz.prog 99 #[txt c, txt m] w fun e w' => e = .returned (.bool (mayP c m)) ∧ Below w.heap.size w w'
  chal : ∀ v m w, T' w → v.length ≤ 140737488355328 → m.length ≤ 140737488355328 → Calls Tryz.prog 159 #[txt v, txt m] w fun e w' => e = .returned (.tuple #[txt (chalP v m).2, .int .i64 ((chalP v m).1 : Nat)]) ∧ Below w.heap.size w w'
  check : ∀ c m v w, T' w → c.length ≤ 140737488355328 → m.length ≤ 140737488355328 → v.length ≤ 140737488355328 → Calls Tryz.prog 137 #[txt c, txt m, txt v] w fun e w' => e = .returned (.bool (checkP c m v)) ∧ Below w.heap.size w w'
end Go.Proofs.YthagdkipipldlaaGreatDoor.pkc
