/- RingKeeps in its card's shape. -/
import Derived.Test.YtkababeeikhifaaDoorRiOp
import Derived.Test.YtkababeeikhifaaDoorRiJ
namespace Go.Proofs.YtkababeeikhifaaDoor.rng
open Go.RowKit
open Go.Proofs.YtkababeeikhifaaDoor.scp (tx senc senc_len InS)
theorem g_keeps (n : Int) (P : Option Addr) (C : Nat) (l : List T) (s : ByteArray) (w : World) (_ : (Lit.int .i64 n).wf = true) (hp : InS w P l) (h16 : l.length * 16 ≤ 140737488351232) (_ : l.length ≤ C) (hn : P = none → C = 0) (_ : Fit l) (hs : s.size ≤ 140737488351232) (ht : RT w) :
    Calls Tryd.prog 7 #[.int .i64 n, .slice P l.length C, .string s] w fun e w' => e = .returned (.bool true) ∧ Below w.heap.size w w' := by
  have h := keeps_c n P C l s.data.toList w hp h16 hn (by show s.data.size ≤ _; have : s.data.size = s.size := rfl; omega) ht
  rw [tx_of] at h
  exact h
end Go.Proofs.YtkababeeikhifaaDoor.rng
