/- The developers' with. Condition: sha's package variables (Tabs). -/
import Derived.Test.YtpijnkfbgieabaaDoorTrF
namespace Go.Proofs.YtpijnkfbgieabaaDoor.tri
theorem with_c (x : Pr) (hx : Fit x) : ∀ (f : Nat) (w : World) (F : Nat → Prop) (d : Nat) (p : Option Nat) (l : List Pr), WPre x w F f d p l → WithC x w F f d p l
  | 0 => with_step x hx 0 fun f' h => absurd h (by omega)
  | f + 1 => with_step x hx (f + 1) fun f' h => by
    obtain rfl : f' = f := by omega
    exact with_c x hx f'
end Go.Proofs.YtpijnkfbgieabaaDoor.tri
