/- TrieFull as the card asks. Condition: sha's package variables (Tabs). -/
import Derived.Test.YtpijnkfbgieabaaDoorTrS
namespace Go.Proofs.YtpijnkfbgieabaaDoor.tri
open Go.RowKit
open Go.Proofs.YtpijnkfbgieabaaDoor.oct Go.Proofs.YtpijnkfbgieabaaDoor.ref Go.Proofs.YtpijnkfbgieabaaDoor.rows Go.Proofs.YtpijnkfbgieabaaDoor.rowg Go.Proofs.YtpijnkfbgieabaaDoor.trn
open Go.Proofs.YtpijnkfbgieabaaDoor.sha (Tabs)
theorem g_full (s : ByteArray) (w : World) (hs : s.size ≤ 140737488351232) (ht : Tabs w) : Calls Tryd.prog 7 #[.string s] w fun e w' => e = .returned (.bool true) ∧ Below w.heap.size w w' := by
  have e : s = ⟨s.data.toList.toArray⟩ := by cases s; simp
  have hl : s.data.toList.length = s.size := by rw [Array.length_toList]; rfl
  have h := full_c s.data.toList w ht (by omega)
  rw [← e] at h
  exact h
end Go.Proofs.YtpijnkfbgieabaaDoor.tri
