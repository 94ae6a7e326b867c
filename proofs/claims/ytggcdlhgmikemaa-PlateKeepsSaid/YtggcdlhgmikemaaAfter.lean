/- A region that draws its order, whose operations only read and whose callees may make memory (but change none): one walk in the order of the text, over the class of the worlds behind this one (After). No condition. -/
import Derived.Test.YtggcdlhgmikemaaMem0
import Derived.Deep.Quiet
namespace Go.Proofs.Ytggcdlhgmikemaa.oct
open Go.RowKit

/-- a world behind this one: what was there is as it was -/
structure After (w : World) where
  v : World
  below : Below w.heap.size w v
instance (w : World) : Nonempty (After w) := ⟨⟨w, Below.refl _ _⟩⟩
theorem after_start (w : World) : ∃ x : After w, { w with drawn := w.drawn + 1 } = x.v := ⟨⟨_, (Below.refl _ w).drew⟩, rfl⟩
theorem after_of {P : Program} {f : FuncId} {args : Array Value} {w : World} {v : Value} (x : After w) (h : Calls P f args x.v fun e w' => e = .returned v ∧ Below x.v.heap.size x.v w') :
    Calls P f args x.v fun e w'' => e = .returned v ∧ ∃ y : After w, w'' = y.v :=
  h.mono fun _ w' ⟨h1, h2⟩ => ⟨h1, ⟨w', bnext x.below h2⟩, rfl⟩
theorem after_same {P : Program} {f : FuncId} {args : Array Value} {w : World} {v : Value} (x : After w) (h : Calls P f args x.v fun e w' => e = .returned v ∧ x.v = w') :
    Calls P f args x.v fun e w'' => e = .returned v ∧ ∃ y : After w, w'' = y.v :=
  h.mono fun _ _ ⟨h1, h2⟩ => ⟨h1, x, h2.symm⟩
theorem wp_region_after {P : Program} {id : Nat} {Q : Exit → Act → World → Prop} {a : Act} {w : World} {l : List Oper} (hm : P.follows .mixedOrders = true) (hB : Region.lexB .any l.toArray = true)
    (h : wpQuiet P l.toArray (fun w' => ∃ x : After w, w' = x.v) (fun a' => ∀ x : After w, Q .normal a' x.v) l a) : (Code.region id l.toArray true).wp P Q a w :=
  wp_region_quiet (C := fun w' => ∃ x : After w, w' = x.v) hm hB (after_start w) (by
    have e : (fun a' => ∀ x : After w, Q .normal a' x.v) = (fun a' => ∀ w', (∃ x : After w, w' = x.v) → Q .normal a' w') := by
      funext a'
      exact propext ⟨fun h w' ⟨x, hx⟩ => hx ▸ h x, fun h x => h x.v ⟨x, rfl⟩⟩
    rw [e] at h
    simpa using h)
end Go.Proofs.Ytggcdlhgmikemaa.oct
