/- A map whose elements are pointers: how an element reads (the block that it points to). No condition. -/
import Derived.Test.YthagdkipipldlaaGreatDoorBaseA
import Derived.Maps.OwnSet
namespace Go.Proofs.YthagdkipipldlaaGreatDoor.mpt
open Go.RowKit

/-- how a pointer to a block's beginning reads in a map -/
def ptrElem : Value → Option (DataW Nat × List MemPlace)
  | .pointer none => some (.nil, [])
  | .pointer (some a) => if a.off = 0 ∧ a.spot = none then some (.held a.block, []) else none
  | _ => none
theorem ptrElem_nil : ptrElem (.pointer none) = some (.nil, []) := rfl
theorem ptrElem_mk (b : Nat) : ptrElem (.pointer (some ⟨b, 0, none⟩)) = some (.held b, []) := by simp [ptrElem]
theorem ptrElem_held {v : Value} {b : Nat} {ps : List MemPlace} (h : ptrElem v = some (.held b, ps)) : v = .pointer (some ⟨b, 0, none⟩) := by
  unfold ptrElem at h
  split at h
  · simp at h
  · rename_i a
    obtain ⟨x, y, z⟩ := a
    split at h
    · rename_i h1
      obtain ⟨h1, h2⟩ := h1
      dsimp only at h1 h2
      subst h1
      subst h2
      simp at h
      rw [h.1]
    · simp at h
  · simp at h
theorem ptrElem_none {v : Value} {ps : List MemPlace} (h : ptrElem v = some (.nil, ps)) : v = .pointer none := by
  unfold ptrElem at h
  split at h
  · rfl
  · split at h <;> simp at h
  · simp at h
end Go.Proofs.YthagdkipipldlaaGreatDoor.mpt
