/- The contracts of the reference's sign, itself, worth. No condition. -/
import Derived.Test.YtjadginnaogjoaaGreatDoorFld1
import Derived.Test.YtjadginnaogjoaaGreatDoorBaseA
import Derived.BigGuardPart
namespace Go.Proofs.YtjadginnaogjoaaGreatDoor.fld
open Go.RowKit
open Go.Proofs.YtjadginnaogjoaaGreatDoor.oct Go.Proofs.YtjadginnaogjoaaGreatDoor.ref
open Go.Lib (byteCells)

theorem sg_nat : ∀ n, n < 16 → (sg n).toNat = if n < 10 then 48 + n else 55 + n := by decide
theorem worth_eq (c : UInt8) (n : Nat) (hn : n < 16) : worth c = n ↔ ((sg n).toNat = c.toNat ∨ (9 < n ∧ 87 + n = c.toNat)) := by
  rw [sg_nat n hn]
  unfold worth
  have := c.toNat_lt
  by_cases h : n < 10
  · rw [if_pos h]; constructor <;> (intro h2; (repeat' split at h2) <;> (try split) <;> (try split) <;> (try split) <;> omega)
  · rw [if_neg h]; constructor <;> (intro h2; (repeat' split at h2) <;> (try split) <;> (try split) <;> (try split) <;> omega)
end Go.Proofs.YtjadginnaogjoaaGreatDoor.fld
