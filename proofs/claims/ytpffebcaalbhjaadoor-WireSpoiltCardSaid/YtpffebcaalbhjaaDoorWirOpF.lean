/- Four laws of wire in full: a writer that may come to any length. Conditions: as each theorem says. -/
import Derived.Test.YtpffebcaalbhjaaDoorWirOp
namespace Go.Proofs.YtpffebcaalbhjaaDoor.wir
open Go.RowKit
open Go.Proofs.YtpffebcaalbhjaaDoor.oct Go.Proofs.YtpffebcaalbhjaaDoor.rowg

theorem g_writesF {T' : World → Prop} (X : WApi T' fun _ => True) (P : Option Addr) (C : Nat) (l : List PutA) (w : World) (hp : InP w P l) (hg : ∀ x ∈ l, GoodP w x) (hC : l.length ≤ C) (ht : T' w) :
    Calls Tryd.prog 3 #[.slice P l.length C] w fun e w' => e = .returned (.bool true) ∧ Below w.heap.size w w' :=
  law_writes X P C l w hp hg hC trivial trivial ht
theorem g_backF {T' : World → Prop} (X : WApi T' fun _ => True) (P : Option Addr) (C : Nat) (l : List PutA) (w : World) (hp : InP w P l) (hg : ∀ x ∈ l, GoodP w x) (hC : l.length ≤ C) (ht : T' w) :
    Calls Tryd.prog 6 #[.slice P l.length C] w fun e w' => e = .returned (.bool true) ∧ Below w.heap.size w w' :=
  law_back X P C l w hp hg hC trivial trivial ht
theorem g_keepsF {T' : World → Prop} (X : WApi T' fun _ => True) (P : Option Addr) (C : Nat) (l : List PutA) (w : World) (hp : InP w P l) (hg : ∀ x ∈ l, GoodP w x) (hC : l.length ≤ C) (ht : T' w) :
    Calls Tryd.prog 10 #[.slice P l.length C] w fun e w' => e = .returned (.bool true) ∧ Below w.heap.size w w' :=
  law_keeps X P C l w hp hg hC trivial trivial ht
theorem g_staysF {T' : World → Prop} (X : WApi T' fun _ => True) (p : Option Addr) (c : Nat) (l : List UInt8) (P : Option Addr) (C : Nat) (ks : List Int) (Q : Option Addr) (D : Nat) (m : List PutA) (w : World) (hp : In8 w p l) (_hl : l.length ≤ 140737488351232) (hm : (p = none → c = 0) ∧ l.length ≤ c) (hP : InI w P ks) (_hk : ks.length ≤ 140737488351232)
    (hq : InP w Q m) (hg : ∀ x ∈ m, GoodP w x) (hD : m.length ≤ D) (ht : T' w) :
    Calls Tryd.prog 8 #[.slice p l.length c, .slice P ks.length C, .slice Q m.length D] w fun e w' => e = .returned (.bool true) ∧ Below w.heap.size w w' :=
  law_stays X p c l P C ks Q D m w hp hm.1 hP hq hg hD trivial trivial ht
end Go.Proofs.YtpffebcaalbhjaaDoor.wir
