/- Rows of bytes and bools that a call owns, read as slices; the conversion of such a row to a text; the contract of the reference's sixes (rows up to 2097152 bytes). -/
import Derived.Test.YtddihhpahghajaaDoorOct3
import Derived.Lib.UnsafeStr
import Derived.Laws.BytesArg
import Derived.Laws.CopyOwn
namespace Go.Proofs.YtddihhpahghajaaDoor.oct
open Go.RowKit
open Go.Proofs.YtddihhpahghajaaDoor.pl
open Go.Lib (byteCells)

theorem byteCells_len (l : List UInt8) : (byteCells l).length = l.length := by simp [byteCells]
theorem byteCells_snoc (l : List UInt8) (c : UInt8) : byteCells (l ++ [c]) = byteCells l ++ [.int .u8 (c.toNat : Int)] := by simp [byteCells]
theorem byteCells_append (l m : List UInt8) : byteCells (l ++ m) = byteCells l ++ byteCells m := by simp [byteCells]

/-- cells of an owned row -/
theorem own_cells {w : World} {B e n : Nat} {v : Value} {xs : List Value} (h : w.ownsRow B e 1 v n xs) :
    n = xs.length ∧ ((v = .slice none 0 0 ∧ n = 0) ∨ ∃ g cp, v = .slice (some ⟨g, 0, none⟩) n cp ∧ B ≤ g ∧ g < w.heap.size ∧ n ≤ cp ∧ ∀ i, i < n → w.cell? ⟨g, i, none⟩ = xs[i]?) := by
  obtain ⟨h0, h1⟩ := h
  refine ⟨by omega, ?_⟩
  rcases h1 with ⟨rfl, rfl⟩ | ⟨g, cp, cur, rfl, hB, hg, hn, hm, hs, ht⟩
  · exact Or.inl ⟨rfl, rfl⟩
  · refine Or.inr ⟨g, cp, rfl, hB, (Array.getElem?_eq_some_iff.1 hg).1, hn, fun i hi => ?_⟩
    rw [cell_of_row w g i cur e (0, 0) hg, ← ht, List.getElem?_take, if_pos (by omega)]
    simp

theorem own_in8 {w : World} {B e n : Nat} {v : Value} {l : List UInt8} (h : w.ownsRow B e 1 v n (byteCells l)) :
    n = l.length ∧ ∃ p cp, v = .slice p n cp ∧ In8 w p l := by
  obtain ⟨h0, h1⟩ := own_cells h
  rw [byteCells_len] at h0
  refine ⟨h0, ?_⟩
  rcases h1 with ⟨rfl, rfl⟩ | ⟨g, cp, rfl, _, _, _, hc⟩
  · exact ⟨none, 0, rfl, fun hl => by omega⟩
  · refine ⟨_, cp, rfl, fun hl => ⟨g, 0, rfl, fun i hi => ?_⟩⟩
    rw [Nat.zero_add, hc i (by omega)]
    simp [byteCells, List.getD, List.getElem?_eq_getElem hi]
theorem own_inB {w : World} {B e n : Nat} {v : Value} {l : List Bool} (h : w.ownsRow B e 1 v n (bools l)) :
    n = l.length ∧ ∃ p cp, v = .slice p n cp ∧ n ≤ cp ∧ (p = none ∨ ∃ g, p = some ⟨g, 0, none⟩ ∧ B ≤ g ∧ g < w.heap.size) ∧ InB w p l := by
  obtain ⟨h0, h1⟩ := own_cells h
  rw [bools_len] at h0
  refine ⟨h0, ?_⟩
  rcases h1 with ⟨rfl, rfl⟩ | ⟨g, cp, rfl, hB, hg, hn, hc⟩
  · exact ⟨none, 0, rfl, Nat.le_refl _, Or.inl rfl, fun hl => by omega⟩
  · refine ⟨_, cp, rfl, hn, Or.inr ⟨g, rfl, hB, hg⟩, fun hl => ⟨g, 0, rfl, fun i hi => ?_⟩⟩
    rw [Nat.zero_add, hc i (by omega)]
    simp [bools, List.getD, List.getElem?_eq_getElem (show i < l.length by omega)]

theorem toNat_map (l : List UInt8) : (l.map fun b => ((b.toNat : Nat) : Int)).map (fun n => UInt8.ofNat n.toNat) = l := by
  induction l with
  | nil => rfl
  | cons a l ih => simp [ih]

/-- a row of bytes as a text -/
theorem conv_in8 {w : World} {p : Option Addr} {l : List UInt8} (h : In8 w p l) (hp : p = none ∨ ∃ b o, p = some ⟨b, o, none⟩) (cp : Nat) :
    (convert 22 9 (.slice p l.length cp)).run Tryd.prog w = .ok (.string ⟨l.toArray⟩) w := by
  rcases hp with rfl | ⟨b, o, rfl⟩
  · have hl : l = [] := by
      rcases l with _ | ⟨a, l⟩
      · rfl
      · obtain ⟨b, o, h1, _⟩ := h (by simp)
        cases h1
    subst hl
    exact run_convert_bytes_nil w _ 5 Tryd.underlying22 Tryd.underlying5 _ _ _ Tryd.underlying9
  · have := run_convert_bytes_arg (P := Tryd.prog) w 22 5 Tryd.underlying22 Tryd.underlying5 b o l.length cp (l.map fun b => ((b.toNat : Nat) : Int)) (by simp) (fun i hi => by
      obtain ⟨b', o', h1, hc⟩ := h (by omega)
      cases h1
      rw [hc i hi]
      simp [List.getD, List.getElem?_eq_getElem hi]) 9 Tryd.underlying9
    rw [this]
    unfold strOfNums
    rw [toNat_map]
theorem conv_own {w : World} {B e n : Nat} {v : Value} {l : List UInt8} (h : w.ownsRow B e 1 v n (byteCells l)) :
    (convert 22 9 v).run Tryd.prog w = .ok (.string ⟨l.toArray⟩) w := by
  obtain ⟨hn, p, cp, rfl, h8⟩ := own_in8 h
  subst hn
  refine conv_in8 h8 ?_ cp
  rcases h.2 with ⟨h1, _⟩ | ⟨g, cap, cur, h1, _⟩
  · injection h1 with h1; exact Or.inl h1
  · injection h1 with h1; exact Or.inr ⟨g, 0, h1⟩

end Go.Proofs.YtddihhpahghajaaDoor.oct
