/- strings.Clone. Lengths of at most 2^48. -/
import Derived.Test.YtggcdlhgmikemaaClnB
import Derived.Test.YtggcdlhgmikemaaShCln
namespace Go.Proofs.Ytggcdlhgmikemaa.cln
open Go.RowKit

theorem sclone_c (s : ByteArray) (w : World) (hs : s.size ≤ 281474976710656) : Calls Try.prog 37 #[.string s] w fun e w' => e = .returned (.string s) ∧ Below w.heap.size w w' := by
  have HI := Lib.hid (sh.sclone s w hs)
  go_enter Try.func37, Try.ntmps37
  go_wp2_with (go_at_call 46; refine HI.out.mono ?_; rintro e w' ⟨rfl, hb⟩)
  go_ret
  exact ⟨rfl, hb⟩
end Go.Proofs.Ytggcdlhgmikemaa.cln
