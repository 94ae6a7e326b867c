/- The contract of the reference's Unquote. Texts of up to 2^47 - 4096 bytes. -/
import Derived.Test.YtjadginnaogjoaaGreatDoorFld3
namespace Go.Proofs.YtjadginnaogjoaaGreatDoor.fld
open Go.RowKit
open Go.Proofs.YtjadginnaogjoaaGreatDoor.oct Go.Proofs.YtjadginnaogjoaaGreatDoor.ref
open Go.Lib (byteCells)

/-- what Unquote answers -/
def unqV (o : Option (List UInt8)) : Value := match o with
  | some m => .tuple #[.string ⟨m.toArray⟩, .int .i64 0]
  | none => .tuple #[.string ⟨#[]⟩, .int .i64 3]
theorem drop_text (s : ByteArray) (k : Nat) (h : k < s.size) : s.data.toList.drop k = s[k] :: s.data.toList.drop (k + 1) := by
  rw [List.drop_eq_getElem_cons (by simpa using h)]; rfl
theorem unq_bad {c : UInt8} {r : List UInt8} (h : c.toNat < 33 ∨ 126 < c.toNat) : unq (c :: r) = none := by rw [unq_cons, if_pos h]
theorem unq_pct_end {r : List UInt8} (h : r.length < 2) : unq (37 :: r) = none := by
  rw [unq_cons, if_neg (by decide), if_pos rfl]
  match r, h with
  | [], _ => rfl
  | [_], _ => rfl
theorem unq_pct_bad {a b : UInt8} {r : List UInt8} (h : ¬ (worth a < 16 ∧ worth b < 16)) : unq (37 :: a :: b :: r) = none := by
  rw [unq_cons, if_neg (by decide), if_pos rfl]
  show (if worth a < 16 ∧ worth b < 16 then _ else none) = none
  rw [if_neg h]
theorem unq_pct {a b : UInt8} {r : List UInt8} (h1 : worth a < 16) (h2 : worth b < 16) : unq (37 :: a :: b :: r) = (unq r).map (UInt8.ofNat (16 * worth a + worth b) :: ·) := by
  rw [unq_cons, if_neg (by decide), if_pos rfl]
  show (if worth a < 16 ∧ worth b < 16 then _ else none) = _
  rw [if_pos ⟨h1, h2⟩]
theorem unq_else {c : UInt8} {r : List UInt8} (h : ¬ (c.toNat < 33 ∨ 126 < c.toNat)) (h2 : c ≠ 37) : unq (c :: r) = (unq r).map ((if c = 43 then 32 else c) :: ·) := by
  rw [unq_cons, if_neg h, if_neg h2]
theorem map_snoc (o : Option (List UInt8)) (acc : List UInt8) (c : UInt8) : (o.map (c :: ·)).map (acc ++ ·) = o.map ((acc ++ [c]) ++ ·) := by
  cases o <;> simp

end Go.Proofs.YtjadginnaogjoaaGreatDoor.fld
