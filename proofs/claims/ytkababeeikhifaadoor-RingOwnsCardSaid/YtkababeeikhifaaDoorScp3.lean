/- Rows of texts in memory (InS); the contracts of the reference's Word, Has, Same. No condition but lengths within the reach. -/
import Derived.Test.YtkababeeikhifaaDoorScp2
import Derived.Test.YtkababeeikhifaaDoorBaseA
import Derived.WalkKit
import Derived.WalkSmall
import Derived.BigGuardPart
import Derived.BigQuiet
import Derived.Deep.QuietTactic
namespace Go.Proofs.YtkababeeikhifaaDoor.scp
open Go.RowKit
open Go.Proofs.YtkababeeikhifaaDoor.oct Go.Proofs.YtkababeeikhifaaDoor.ref Go.Proofs.YtkababeeikhifaaDoor.rows Go.Proofs.YtkababeeikhifaaDoor.rowg

/-- a text's cell -/
def tx (l : T) : Value := .string ⟨l.toArray⟩
def senc (a : T) : List Value := [tx a]
theorem senc_len : ∀ a, (senc a).length = 1 := fun _ => rfl
/-- a row of texts at a slice's address -/
abbrev InS (w : World) (P : Option Addr) (l : List T) : Prop := InG senc 1 w P l
theorem ins_below {w w' : World} {P : Option Addr} {ms : List T} (h : InS w P ms) (hb : Below w.heap.size w w') : InS w' P ms := InG.below senc_len (by decide) h hb
theorem ins_cell {w : World} {P : Option Addr} {ms : List T} (h : InS w P ms) (i : Nat) (hi : i < ms.length) : ∃ b o, P = some ⟨b, o, none⟩ ∧ w.cell? ⟨b, o + i, none⟩ = some (.string ⟨(ms[i]).toArray⟩) := by
  obtain ⟨b, o, e, hc⟩ := InG.cells h i hi
  have h0 := hc 0 (by decide)
  rw [Nat.mul_one, Nat.add_zero] at h0
  exact ⟨b, o, e, h0⟩
theorem drewN_add (w : World) (a b : Nat) : (w.drewN a).drewN b = w.drewN (a + b) := by
  unfold World.drewN
  simp [Nat.add_assoc]
theorem take_eqk {α : Type} {l m : List α} {k : Nat} (h1 : k < l.length) (h2 : k < m.length) : l.take (k + 1) = m.take (k + 1) ↔ l.take k = m.take k ∧ l[k] = m[k] := by
  rw [List.take_succ_eq_append_getElem h1, List.take_succ_eq_append_getElem h2]
  constructor
  · intro h
    obtain ⟨e1, e2⟩ := List.append_inj h (by simp; omega)
    exact ⟨e1, by simpa using e2⟩
  · rintro ⟨e1, e2⟩; rw [e1, e2]
theorem hasB_take (l : List T) (s : T) (k : Nat) (h : k < l.length) (h0 : hasB (l.take k) s = false) : (l[k] = s → hasB l s = true) ∧ (l[k] ≠ s → hasB (l.take (k + 1)) s = false) := by
  constructor
  · intro e; rw [hasB_iff, ← e]; exact List.getElem_mem h
  · intro e
    unfold hasB at h0 ⊢
    rw [List.take_succ_eq_append_getElem h, List.any_append, h0]
    simpa using e
theorem okC_text (s : ByteArray) (k : Nat) (h : k < s.size) (h0 : (s.data.toList.take k).all okC = true) : (okC s[k] = true → (s.data.toList.take (k + 1)).all okC = true) ∧ (okC s[k] = false → s.data.toList.all okC = false) := by
  have h1 : k < s.data.toList.length := by simpa using h
  have e : s[k] = s.data.toList[k] := rfl
  rw [e]
  constructor
  · intro h2
    rw [List.take_succ_eq_append_getElem h1, List.all_append, h0, List.all_cons, h2]
    rfl
  · intro h2
    cases h3 : s.data.toList.all okC with
    | false => rfl
    | true =>
      rw [List.all_eq_true] at h3
      rw [h3 _ (List.getElem_mem h1)] at h2
      cases h2
end Go.Proofs.YtkababeeikhifaaDoor.scp
