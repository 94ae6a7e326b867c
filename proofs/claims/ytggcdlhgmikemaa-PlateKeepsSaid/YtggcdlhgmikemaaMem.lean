/- Rows of bytes as texts. Of no function. No condition. -/
import Derived.Test.YtggcdlhgmikemaaMem0
namespace Go.Proofs.Ytggcdlhgmikemaa.oct
open Go.RowKit
open Go.Lib (byteCells)

/-- a row of bytes as a text -/
theorem conv_in8 {w : World} {p : Option Addr} {l : List UInt8} (h : In8 w p l) (hp : p = none ∨ ∃ b o, p = some ⟨b, o, none⟩) (cp : Nat) :
    (convert 33 9 (.slice p l.length cp)).run Try.prog w = .ok (.string ⟨l.toArray⟩) w := by
  rcases hp with rfl | ⟨b, o, rfl⟩
  · have hl : l = [] := by
      rcases l with _ | ⟨a, l⟩
      · rfl
      · obtain ⟨b, o, h1, _⟩ := h (by simp)
        cases h1
    subst hl
    exact run_convert_bytes_nil w _ 5 Try.underlying33 Try.underlying5 _ _ _ Try.underlying9
  · have := run_convert_bytes_arg (P := Try.prog) w 33 5 Try.underlying33 Try.underlying5 b o l.length cp (l.map fun b => ((b.toNat : Nat) : Int)) (by simp) (fun i hi => by
      obtain ⟨b', o', h1, hc⟩ := h (by omega)
      cases h1
      rw [hc i hi]
      simp [List.getD, List.getElem?_eq_getElem hi]) 9 Try.underlying9
    rw [this]
    unfold strOfNums
    rw [toNat_map]
theorem conv_own {w : World} {B e n : Nat} {v : Value} {l : List UInt8} (h : w.ownsRow B e 1 v n (byteCells l)) :
    (convert 33 9 v).run Try.prog w = .ok (.string ⟨l.toArray⟩) w := by
  obtain ⟨hn, p, cp, rfl, h8⟩ := own_in8 h
  subst hn
  refine conv_in8 h8 ?_ cp
  rcases h.2 with ⟨h1, _⟩ | ⟨g, cap, cur, h1, _⟩
  · injection h1 with h1; exact Or.inl h1
  · injection h1 with h1; exact Or.inr ⟨g, 0, h1⟩
end Go.Proofs.Ytggcdlhgmikemaa.oct
