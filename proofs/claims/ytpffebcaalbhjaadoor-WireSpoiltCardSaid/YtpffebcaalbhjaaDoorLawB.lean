/- OctetBack, OctetForth: the walks of the laws (rows and texts up to 1048576). -/
import Derived.Test.YtpffebcaalbhjaaDoorOctA
import Derived.WalkSmall
namespace Go.Proofs.YtpffebcaalbhjaaDoor.lawB
open Go.RowKit
open Go.Proofs.YtpffebcaalbhjaaDoor.pl Go.Proofs.YtpffebcaalbhjaaDoor.oct
open Go.Lib (byteCells)

theorem hit8 {T : List UInt8 → List UInt8} {o s : List UInt8} {w : World} {e : Ending} {w' : World} (hT : ∀ a b, T a = T b → a = b) (ho : T o = s) (h : ReadT T s w e w') :
    ∃ p cp, e = .returned (.tuple #[.slice p o.length cp, .int .i64 0]) ∧ In8 w' p o ∧ Below w.heap.size w w' := by
  obtain ⟨v, h1, h2, h3⟩ := h.hit hT ho
  obtain ⟨_, p, cp, rfl, h4⟩ := own_in8 h2
  exact ⟨p, cp, h1, h4, h3⟩

theorem rsame_t (p : Option Addr) (q : Option Addr) (cp cq : Nat) (l : List UInt8) (w : World) (hp : In8 w p l) (hq : In8 w q l) (hl : l.length ≤ 140737488355328) :
    Calls Tryd.prog 15 #[.slice p l.length cp, .slice q l.length cq] w fun e w' => e = .returned (.bool true) ∧ Below w.heap.size w w' :=
  (rsame_c p q cp cq l l w hp hq (by omega)).mono fun e w' ⟨h1, n, h2⟩ => ⟨by rw [h1]; simp, by rw [h2]; exact below_drewN (Below.refl _ _) n⟩

/-- a reading, either way, in one form -/
def Came (T : List UInt8 → List UInt8) (s : ByteArray) (w : World) (e : Ending) (w' : World) : Prop :=
  ∃ p cp out E, e = .returned (.tuple #[.slice p out.length cp, .int .i64 E]) ∧ In8 w' p out ∧ Below w.heap.size w w' ∧ out.length ≤ 140737488355328 ∧ ((E = 0 ∧ (⟨(T out).toArray⟩ : ByteArray) = s) ∨ (E = 3 ∧ out = []))
theorem came {T : List UInt8 → List UInt8} {s : ByteArray} {w : World} {e : Ending} {w' : World} (hl : ∀ o, o.length ≤ (T o).length) (hs : s.size ≤ 140737488355328) (h : ReadT T s.data.toList w e w') : Came T s w e w' := by
  rcases h with ⟨out, v, h1, h2, h3, h4⟩ | ⟨h1, h2, h3⟩
  · obtain ⟨_, p, cp, rfl, h5⟩ := own_in8 h3
    have hsl : s.data.toList.length = s.size := by rw [Array.length_toList]; rfl
    have := hl out
    refine ⟨p, cp, out, 0, h2, h5, h4, by rw [h1, hsl] at this; omega, Or.inl ⟨rfl, ?_⟩⟩
    rw [h1]
  · exact ⟨none, 0, [], 3, h2, fun h => by simp at h, h3, by simp, Or.inr ⟨rfl, rfl⟩⟩

end Go.Proofs.YtpffebcaalbhjaaDoor.lawB
