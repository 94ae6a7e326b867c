/- The contract of the reference's Kept (rows within the reach). -/
import Derived.Test.YtdjgafemmihlgaaR1Same
import Derived.Test.YtdjgafemmihlgaaR1Room
namespace Go.Proofs.Ytdjgafemmihlgaa.ref
open Go.RowKit
open Go.Proofs.Ytdjgafemmihlgaa.oct
open Go.Lib (byteCells)

set_option maxRecDepth 20000 in
set_option maxHeartbeats 1000000 in
theorem kept_c (g : Nat) (q : Option Addr) (cq : Nat) (l : List UInt8) (w : World) (hB : Blk w g 5 (byteCells l ++ seven 3)) (hq : In8 w q l) (hl : l.length ≤ 140737488351232) :
    Calls Try.prog 22 #[.slice (some ⟨g, 0, none⟩) l.length (l.length + 3), .slice q l.length cq] w fun e w' => e = .returned (.bool true) ∧ ∃ n, w' = w.drewN n := by
  have HS := Lib.hid (rsame_c (some ⟨g, 0, none⟩) q (l.length + 3) cq l l w (in8_blk hB) hq (by omega))
  have h0 := blk_seven hB 0 (by omega)
  have h1 := blk_seven hB 1 (by omega)
  have h2 := blk_seven hB 2 (by omega)
  rw [Nat.add_zero] at h0
  clear hB hq
  go_enter Try.func22, Try.ntmps22
  go_wp2_with (go_at_call 25; refine HS.out.mono ?_; rintro e w2 ⟨rfl, nd, rfl⟩; rw [show decide (l = l) = true from by simp])
  go_ret
  exact ⟨rfl, nd, rfl⟩
end Go.Proofs.Ytdjgafemmihlgaa.ref
