/- bytes.Clone; rows that are new; keys of text. Lengths of at most 2^47. -/
import Derived.Test.YtkababeeikhifaaDoorBaseA
namespace Go.Proofs.YtkababeeikhifaaDoor.cln
open Go.RowKit
open Go.Proofs.YtkababeeikhifaaDoor.oct Go.Proofs.YtkababeeikhifaaDoor.ref Go.Proofs.YtkababeeikhifaaDoor.rowg Go.Proofs.YtkababeeikhifaaDoor.trn
open Go.Lib (byteCells)

theorem own_slice {w : World} {B e k n : Nat} {v : Value} {xs : List Value} (h : w.ownsRow B e k v n xs) : ∃ p c, v = .slice p n c := by
  rcases h.2 with ⟨h1, h2⟩ | ⟨g, cap, cur, h1, _⟩
  · exact ⟨none, 0, by rw [h1, h2]⟩
  · exact ⟨_, _, h1⟩
theorem own_base {w : World} {B B2 e k n : Nat} {v : Value} {xs : List Value} (h : w.ownsRow B e k v n xs) (hb : B2 ≤ B) : w.ownsRow B2 e k v n xs := by
  refine ⟨h.1, ?_⟩
  rcases h.2 with h2 | ⟨g, cap, cur, h1, h2, h3⟩
  · exact Or.inl h2
  · exact Or.inr ⟨g, cap, cur, h1, Nat.le_trans hb h2, h3⟩
theorem own_raise {w : World} {B B2 e k n : Nat} {v : Value} {xs : List Value} (h : w.ownsRow B e k v n xs) (hb : ∀ b, v.ownBlock = some b → B2 ≤ b) : w.ownsRow B2 e k v n xs := by
  refine ⟨h.1, ?_⟩
  rcases h.2 with h2 | ⟨g, cap, cur, h1, h2, h3⟩
  · exact Or.inl h2
  · exact Or.inr ⟨g, cap, cur, h1, hb g (by rw [h1]; rfl), h3⟩
theorem own_lt {w : World} {B e k n : Nat} {v : Value} {xs : List Value} (h : w.ownsRow B e k v n xs) {b : Nat} (hb : v.ownBlock = some b) : B ≤ b ∧ b < w.heap.size := h.lt b hb
/-- new bytes -/
def NewB (w w' : World) (d : List UInt8) (v : Value) : Prop := w'.ownsRow w.heap.size 5 1 v d.length (byteCells d) ∧ Below w.heap.size w w'
theorem key_txt (y : List UInt8) (h : y.length ≤ 140737488351232) : keyOf Tryd.prog 9 (.string ⟨y.toArray⟩) = some (.string y) :=
  WideMaps.keyOf_string_mk (P := Tryd.prog) Tryd.underlying9 (s := ⟨y.toArray⟩) (by rw [show (⟨y.toArray⟩ : ByteArray).size = y.length from List.size_toArray]; unfold maxLen; omega)
theorem skeyed : Maps.Keyed Tryd.prog 9 := Maps.string_keyed Tryd.underlying9
end Go.Proofs.YtkababeeikhifaaDoor.cln
