/- Openings for the cards: strings, bounds, weights. Of no function. No condition. -/
import Derived.Test.YthagdkipipldlaaGreatDoorRows
import Derived.Test.YthagdkipipldlaaGreatDoorBaseA
import Derived.ProofKit
import Derived.OpenShut
import Derived.Lib.LaidTab
namespace Go.Proofs.YthagdkipipldlaaGreatDoor.opn
set_option maxRecDepth 100000
open Go.ChangeShapes Go.WideShapes Go.ChangeAt Go.RowKit
open Go.Proofs.YthagdkipipldlaaGreatDoor.oct (In8)

theorem one_le {H : Type} (d : DataW H) : 1 ≤ Rows.uptoBulk d := by
  cases d with
  | lit l => cases l <;> simp [Rows.uptoBulk]
  | nil => simp [Rows.uptoBulk]
  | ptr d => simp [Rows.uptoBulk]
  | slice elems spare => simp [Rows.uptoBulk]
  | agg parts => simp [Rows.uptoBulk]
  | iface t d => simp [Rows.uptoBulk]
  | map entries => simp [Rows.uptoBulk]
  | held h => simp [Rows.uptoBulk]
theorem length_le {H : Type} (l : List (DataW H)) : l.length ≤ Rows.uptoBulkAll l := by
  induction l with
  | nil => simp [Rows.uptoBulkAll]
  | cons x r ih => have := one_le x; simp only [Rows.uptoBulkAll, List.length_cons]; omega
theorem bound {H : Type} {l : List (DataW H)} (hk : Rows.uptoSmall H l = true) : Rows.uptoBulkAll l ≤ 1048576 := of_decide_eq_true hk
theorem string_bulk {H : Type} (s : ByteArray) : Rows.uptoBulk (DataW.lit (H := H) (.string s.data.toList)) = s.size + 1 := by
  have e : s.data.toList.length = s.size := by rw [Array.length_toList]; rfl
  rw [← e]
  simp [Rows.uptoBulk]
theorem weights_get {H : Type} {P : Program} : ∀ {ts : List TypeId} {ds : List (DataW H)} {j : Nat} {t : TypeId} {d : DataW H}, ts[j]? = some t → ds[j]? = some d → ∀ x ∈ d.weights P t, x ∈ DataW.weightsEach P ts ds
  | [], _, _, _, _, h, _ => by simp at h
  | _ :: _, [], _, _, _, _, h => by simp at h
  | _ :: _, _ :: _, 0, _, _, h1, h2 => by
    simp at h1 h2; subst h1 h2
    intro x hx; rw [DataW.weightsEach]; exact List.mem_append_left _ hx
  | _ :: _, _ :: _, j + 1, _, _, h1, h2 => by
    simp at h1 h2
    intro x hx; rw [DataW.weightsEach]; exact List.mem_append_right _ (weights_get h1 h2 x hx)
/-- a string that is handed in is no longer than the reach -/
theorem string_reach {H : Type} {P : Program} {ts : List TypeId} {ds : List (DataW H)} {s : ByteArray} {t : TypeId} (hz : (DataW.weightsEach P ts ds).all (· ≤ reachBytes) = true) (j : Nat) (h1 : ts[j]? = some t) (h2 : ds[j]? = some (.lit (.string s.data.toList))) : s.size ≤ 140737488351232 := by
  have h := List.all_eq_true.1 hz s.data.toList.length (weights_get h1 h2 _ (by simp [DataW.weights]))
  have e : s.data.toList.length = s.size := by rw [Array.length_toList]; rfl
  rw [e] at h
  exact of_decide_eq_true h
/-- a []byte that is handed in is no longer than the reach -/
theorem bytes_reach {H : Type} {P : Program} {ts : List TypeId} {ds : List (DataW H)} {d : DataW H} {t : TypeId} {k : Nat} (hz : (DataW.weightsEach P ts ds).all (· ≤ reachBytes) = true) (j : Nat) (h1 : ts[j]? = some t) (h2 : ds[j]? = some d)
    (h : (∃ n, n ∈ d.weights P t ∧ k ≤ n) ∨ k = 0) : k ≤ 140737488351232 := by
  rcases h with ⟨n, hn, hk⟩ | rfl
  · have h := List.all_eq_true.1 hz n (weights_get h1 h2 _ hn)
    exact Nat.le_trans hk (of_decide_eq_true h)
  · exact Nat.zero_le _
end Go.Proofs.YthagdkipipldlaaGreatDoor.opn
