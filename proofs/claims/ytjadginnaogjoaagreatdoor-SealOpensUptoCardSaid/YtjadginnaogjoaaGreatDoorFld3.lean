/- The contracts of the reference's Quote and Unquote. Texts of up to 1048576 bytes. -/
import Derived.Test.YtjadginnaogjoaaGreatDoorFld2
import Derived.Test.YtjadginnaogjoaaGreatDoorBaseA
namespace Go.Proofs.YtjadginnaogjoaaGreatDoor.fld
open Go.RowKit
open Go.Proofs.YtjadginnaogjoaaGreatDoor.oct Go.Proofs.YtjadginnaogjoaaGreatDoor.ref
open Go.Lib (byteCells)

theorem qB_len (c : UInt8) : (qB c).length ≤ 3 := by unfold qB; split <;> (try split) <;> simp
theorem quote_len (l : List UInt8) : (quote l).length ≤ 3 * l.length := by
  induction l with
  | nil => simp [quote]
  | cons c l ih =>
    have e : quote (c :: l) = qB c ++ quote l := rfl
    rw [e, List.length_append, List.length_cons]
    have := qB_len c
    omega
theorem quote_append (a b : List UInt8) : quote (a ++ b) = quote a ++ quote b := by simp [quote]
theorem quote_snoc (l : List UInt8) (c : UInt8) : quote (l ++ [c]) = quote l ++ qB c := by rw [quote_append]; simp [quote]
theorem take_text (s : ByteArray) (k : Nat) (h : k < s.size) : s.data.toList.take (k + 1) = s.data.toList.take k ++ [s[k]] := by
  rw [List.take_succ_eq_append_getElem (by simpa using h)]; rfl

theorem ne_byte {c d : UInt8} (h : c ≠ d) : ((c.toNat : Int) == (d.toNat : Int)) = false := by
  rw [beq_eq_false_iff_ne]
  intro e
  exact h (UInt8.toNat_inj.1 (by omega))
end Go.Proofs.YtjadginnaogjoaaGreatDoor.fld
