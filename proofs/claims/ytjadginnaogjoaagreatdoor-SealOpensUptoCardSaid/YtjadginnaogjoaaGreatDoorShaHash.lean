/- What the laws of sha ask of a hash (Hashes), and ShaApart's walk by it (rows of up to 1048576 bytes each). -/
import Derived.Test.YtjadginnaogjoaaGreatDoorShaLong
namespace Go.Proofs.YtjadginnaogjoaaGreatDoor.sha
open Go.RowKit
open Go.Proofs.YtjadginnaogjoaaGreatDoor.oct Go.Proofs.YtjadginnaogjoaaGreatDoor.ref Go.Proofs.YtjadginnaogjoaaGreatDoor.rows
open Go.Lib (byteCells)

theorem InP.two {w : World} {p r : Option Addr} {cp cr : Nat} {l m : List UInt8} (h : In8 w p l) (hn : Rm p cp l.length) (k : In8 w r m) (kn : Rm r cr m.length) :
    InP (w.alloc (.cells #[.slice p l.length cp, .slice r m.length cr] 22)) (some ⟨w.heap.size, 0, none⟩) [⟨p, cp, l⟩, ⟨r, cr, m⟩] := by
  have hb := (Below.refl w.heap.size w).alloc (Nat.le_refl _) (.cells #[.slice p l.length cp, .slice r m.length cr] 22)
  refine ⟨fun _ => ⟨w.heap.size, 0, rfl, fun i hi => ?_⟩, ?_⟩
  · rw [World.cell?_alloc_at _ _ _ _ rfl]
    match i, hi with
    | 0, _ => rfl
    | 1, _ => rfl
  · intro x hx
    simp only [List.mem_cons, List.not_mem_nil, or_false] at hx
    rcases hx with rfl | rfl
    · exact ⟨h.below hb, hn⟩
    · exact ⟨k.below hb, kn⟩
theorem joined_two (p r : Option Addr) (cp cr : Nat) (l m : List UInt8) : joined [⟨p, cp, l⟩, ⟨r, cr, m⟩] = l ++ m := by simp [joined]
theorem in8_block {w : World} {p : Option Addr} {l : List UInt8} {g : Nat} (h : In8 w p l) (hg : w.heap.size ≤ g) (hl : 0 < l.length) : ∀ a, p = some a → a.block ≠ g := by
  intro a ha
  obtain ⟨b, o, h1, hc⟩ := h hl
  rw [ha] at h1
  cases h1
  have : b < w.heap.size := cell_lt (hc 0 hl)
  show b ≠ g
  omega
/-- a block of the call's own is written: what was there before the call is as it was -/
theorem grown_below {w w' : World} {g B : Nat} {w0 : World} (hb : Below B w0 w) (hg : w.grownBy w' (some g)) (hB : B ≤ g) (hs : B ≤ w.heap.size) : Below B w0 w' :=
  hb.grown hg hs (fun k hk => by cases hk; exact hB)
theorem grown_keep {T : World → Prop} {Has : World → Nat → List UInt8 → Prop} (X : Api T Has) {w w' : World} {g h : Nat} {L : List UInt8} (k : Has w h L) (hg : w.grownBy w' (some g)) (hn : h ≠ g) : Has w' h L :=
  X.keep w w' h L k (hg.block h (X.lt w h L k) (fun e => hn (by cases e; rfl)))
theorem below_keep {T : World → Prop} {Has : World → Nat → List UInt8 → Prop} (X : Api T Has) {w w' : World} {h : Nat} {L : List UInt8} (k : Has w h L) (hb : Below w.heap.size w w') : Has w' h L :=
  X.keep w w' h L k (hb.block h (X.lt w h L k))

end Go.Proofs.YtjadginnaogjoaaGreatDoor.sha
