/- RingOwns in its card's shape. -/
import Derived.Test.YtkababeeikhifaaDoorRiOr
import Derived.Test.YtkababeeikhifaaDoorRiP
namespace Go.Proofs.YtkababeeikhifaaDoor.rng
open Go.RowKit
open Go.Proofs.YtkababeeikhifaaDoor.scp (tx senc senc_len InS)
theorem g_owns (n : Int) (P : Option Addr) (C : Nat) (l : List T) (K : Option Addr) (D : Nat) (k : List T) (w : World) (_ : (Lit.int .i64 n).wf = true) (hp : InS w P l) (h16 : l.length * 16 ≤ 140737488351232) (hc : l.length ≤ C) (_ : P = none → C = 0) (_ : Fit l)
    (hk : InS w K k) (_ : k.length * 16 ≤ 140737488351232) (_ : k.length ≤ D) (_ : K = none → D = 0) (hf : Fit k) (ht : RT w) :
    Calls Tryd.prog 3 #[.int .i64 n, .slice P l.length C, .slice K k.length D] w fun e w' => e = .returned (.bool true) ∧ Below w.heap.size w w' := owns_c n P C l K D k w hp hc (by omega) hk hf ht
end Go.Proofs.YtkababeeikhifaaDoor.rng
