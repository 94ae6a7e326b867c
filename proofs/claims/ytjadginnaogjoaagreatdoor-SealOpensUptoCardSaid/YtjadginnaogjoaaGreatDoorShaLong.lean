/- ShaLongKeys: the walk of the law, by the laws' interface (rows within the reach). -/
import Derived.Test.YtjadginnaogjoaaGreatDoorShaA
import Derived.Deep.RegionWith
import Derived.BigRegion
namespace Go.Proofs.YtjadginnaogjoaaGreatDoor.sha
open Go.RowKit
open Go.Proofs.YtjadginnaogjoaaGreatDoor.oct Go.Proofs.YtjadginnaogjoaaGreatDoor.ref Go.Proofs.YtjadginnaogjoaaGreatDoor.rows
open Go.Lib (byteCells)

theorem key64_digest {k : List UInt8} (h : k.length > 64) : key64 (digest k) = key64 k := by
  rw [key64_eq, key64_eq]
  unfold key0
  rw [if_pos h, if_neg (by rw [digest_len]; decide)]
theorem mac_long {k l : List UInt8} (h : k.length > 64) : mac (digest k) l = mac k l := by unfold mac; rw [key64_digest h]
theorem key64_zeros {k : List UInt8} (h : k.length ≤ 64) : key64 (k ++ List.replicate (64 - k.length) 0) = key64 k := by
  have hl : (k ++ List.replicate (64 - k.length) (0 : UInt8)).length = 64 := by simp; omega
  rw [key64_eq, key64_eq]
  unfold key0
  rw [if_neg (by omega), if_neg (by omega), hl]
  simp
theorem mac_short {k l : List UInt8} (h : k.length ≤ 64) : mac (k ++ List.replicate (64 - k.length) 0) l = mac k l := by unfold mac; rw [key64_zeros h]

theorem byteCells_rep (n : Nat) (c : UInt8) : byteCells (List.replicate n c) = List.replicate n (.int .u8 (c.toNat : Int)) := by simp [byteCells]
/-- one part, laid just now or before -/
theorem lay_old {w : World} {P : Option Addr} {ps : List Part} (h : InP w P ps) (o : Obj) : InP (w.alloc o) P ps := h.below ((Below.refl _ _).alloc (Nat.le_refl _) o)

theorem mac_n {T : World → Prop} {Has : World → Nat → List UInt8 → Prop} (X : Api T Has) (p : Option Addr) (cp N : Nat) (k : List UInt8) (P : Option Addr) (C : Nat) (q : Option Addr) (cq : Nat) (l : List UInt8) (A : Array Value) (w : World) (ht : T w)
    (hp : In8 w p k) (hN : k.length = N) (hk : N ≤ 140737488354000) (hpn : Rm p cp N) (hP : InP w P [⟨q, cq, l⟩]) (hl : l.length ≤ 140737488354000) (hA : (byteCells (mac k l)).toArray = A) :
    Calls Tryz.prog 25 #[.slice p N cp, .slice P 1 C] w fun e w' => e = .returned (.agg A) ∧ Below w.heap.size w w' := by
  subst hN hA
  have h := X.mac p cp k P C [⟨q, cq, l⟩] w ht hp hk hpn hP (by simp) (by rw [joined_one]; exact hl)
  rw [joined_one] at h
  exact h
theorem agg_eq (l : List UInt8) (w : World) (h : l.length = 32) : (binOp .eql 56 (.agg (byteCells l).toArray) (.agg (byteCells l).toArray)).run Tryz.prog w = .ok (.bool true) w := by
  have := digest_eq l l w h h
  unfold dval at this
  simpa using this

end Go.Proofs.YtjadginnaogjoaaGreatDoor.sha
