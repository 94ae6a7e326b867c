/- strings.Clone. Lengths of at most 2^48. -/
import Derived.Test.YtkababeeikhifaaDoorClnB
import Derived.Test.YtkababeeikhifaaDoorShCln
namespace Go.Proofs.YtkababeeikhifaaDoor.cln
open Go.RowKit

theorem sclone_c (s : ByteArray) (w : World) (hs : s.size ≤ 281474976710656) : Calls Tryd.prog 40 #[.string s] w fun e w' => e = .returned (.string s) ∧ Below w.heap.size w w' := by
  have HI := Lib.hid (sh.sclone s w hs)
  go_enter Tryd.func40, Tryd.ntmps40
  go_wp2_with (go_at_call 54; refine HI.out.mono ?_; rintro e w' ⟨rfl, hb⟩)
  go_ret
  exact ⟨rfl, hb⟩
end Go.Proofs.YtkababeeikhifaaDoor.cln
