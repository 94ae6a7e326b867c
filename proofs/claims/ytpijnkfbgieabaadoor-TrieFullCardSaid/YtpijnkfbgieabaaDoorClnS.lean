/- strings.Clone. Lengths of at most 2^48. -/
import Derived.Test.YtpijnkfbgieabaaDoorClnB
import Derived.Test.YtpijnkfbgieabaaDoorShCln
namespace Go.Proofs.YtpijnkfbgieabaaDoor.cln
open Go.RowKit

theorem sclone_c (s : ByteArray) (w : World) (hs : s.size ≤ 281474976710656) : Calls Tryd.prog 47 #[.string s] w fun e w' => e = .returned (.string s) ∧ Below w.heap.size w w' := by
  have HI := Lib.hid (sh.sclone s w hs)
  go_enter Tryd.func47, Tryd.ntmps47
  go_wp2_with (go_at_call 70; refine HI.out.mono ?_; rintro e w' ⟨rfl, hb⟩)
  go_ret
  exact ⟨rfl, hb⟩
end Go.Proofs.YtpijnkfbgieabaaDoor.cln
