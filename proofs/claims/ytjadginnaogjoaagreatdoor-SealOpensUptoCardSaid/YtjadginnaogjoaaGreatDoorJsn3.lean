/- The contracts of the reference's sign, worth, text. Texts of up to 2^47 - 4096 bytes. -/
import Derived.Test.YtjadginnaogjoaaGreatDoorJsn2
import Derived.Test.YtjadginnaogjoaaGreatDoorBaseA
import Derived.BigGuardPart
namespace Go.Proofs.YtjadginnaogjoaaGreatDoor.jsn
open Go.RowKit
open Go.Proofs.YtjadginnaogjoaaGreatDoor.oct Go.Proofs.YtjadginnaogjoaaGreatDoor.ref
open Go.Lib (byteCells)

theorem worth_eq (c : UInt8) (n : Nat) (hn : n < 16) : worth c = n ↔ (sg n).toNat = c.toNat := by
  rw [sg_nat n hn]
  unfold worth
  have := c.toNat_lt
  by_cases h : n < 10
  · rw [if_pos h]; constructor <;> (intro h2; (repeat' split at h2) <;> (try split) <;> (try split) <;> omega)
  · rw [if_neg h]; constructor <;> (intro h2; (repeat' split at h2) <;> (try split) <;> (try split) <;> omega)
theorem ne_byte {c d : UInt8} (h : c ≠ d) : ((c.toNat : Int) == (d.toNat : Int)) = false := by
  rw [beq_eq_false_iff_ne]
  intro e
  exact h (UInt8.toNat_inj.1 (by omega))
theorem take_text (s : ByteArray) (k : Nat) (h : k < s.size) : s.data.toList.take (k + 1) = s.data.toList.take k ++ [s[k]] := by
  rw [List.take_succ_eq_append_getElem (by simpa using h)]; rfl
theorem strB_snoc (l : List UInt8) (c : UInt8) : strB (l ++ [c]) = strB l ++ sB c := by rw [strB_append]; simp [strB]
theorem strB_take_le (l : List UInt8) (k : Nat) : (strB (l.take k)).length ≤ (strB l).length := by
  have h := strB_append (l.take k) (l.drop k)
  rw [List.take_append_drop] at h
  rw [h, List.length_append]
  omega
theorem own_val {w : World} {B e n z : Nat} {v : Value} {xs : List Value} (h : w.ownsRow B e z v n xs) : ∃ p c, v = .slice p n c := by
  rcases h.2 with ⟨rfl, rfl⟩ | ⟨g, cap, cur, rfl, _⟩
  · exact ⟨none, 0, rfl⟩
  · exact ⟨_, _, rfl⟩
/-- what the reference's text answers: the string, or something as long as is too long -/
def TxtOf (l R : List UInt8) : Prop := R.length ≤ 16400 ∧ (R = strT l ∨ (16384 < R.length ∧ 16384 < (strT l).length))
def TxtV (l : List UInt8) (w w' : World) (e : Ending) : Prop := ∃ R, TxtOf l R ∧ e = .returned (.string ⟨R.toArray⟩) ∧ Below w.heap.size w w'
theorem own_lit (w : World) (l : List UInt8) (C : Array Value) (hC : C = (byteCells l).toArray) (hm : l.length ≤ 1000) : (w.alloc (.cells C 5)).ownsRow w.heap.size 5 1 (.slice (some ⟨w.heap.size, 0, none⟩) l.length l.length) l.length (byteCells l) := by
  subst hC
  have h := own_of_block (w := w.alloc (.cells (byteCells l).toArray 5)) (B := w.heap.size) (e := 5) (g := w.heap.size) (xs := byteCells l) (Nat.le_refl _) (heap_alloc_new w _) (by rw [byteCells_len]; unfold maxLen; omega)
  rwa [byteCells_len] at h
end Go.Proofs.YtjadginnaogjoaaGreatDoor.jsn
