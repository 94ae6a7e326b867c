/- The laws of sha, for its cards. Condition: the two tables hold what the program's text lays. -/
import Derived.Test.YtohmhcglmaifpaaDoorDevB
import Derived.Test.YtohmhcglmaifpaaDoorShaOn
namespace Go.Proofs.YtohmhcglmaifpaaDoor.sha
open Go.RowKit
open Go.Proofs.YtohmhcglmaifpaaDoor.oct Go.Proofs.YtohmhcglmaifpaaDoor.ref Go.Proofs.YtohmhcglmaifpaaDoor.rows

theorem c_sums (p : Option Addr) (cp : Nat) (l : List UInt8) (w : World) (hp : In8 w p l) (hl : l.length ≤ 140737488351232) (hn : Rm p cp l.length) (ht : Tabs w) :
    Calls Tryd.prog 3 #[.slice p l.length cp] w fun e w' => e = .returned (.bool true) ∧ Below w.heap.size w w' := law_sums the_api p cp l w hp hl hn ht
theorem c_macs (p : Option Addr) (cp : Nat) (k : List UInt8) (q : Option Addr) (cq : Nat) (l : List UInt8) (w : World) (hp : In8 w p k) (hk : k.length ≤ 140737488351232) (hpn : Rm p cp k.length) (hq : In8 w q l) (hl : l.length ≤ 140737488351232) (hqn : Rm q cq l.length) (ht : Tabs w) :
    Calls Tryd.prog 4 #[.slice p k.length cp, .slice q l.length cq] w fun e w' => e = .returned (.bool true) ∧ Below w.heap.size w w' := law_macs the_api p cp k q cq l w hp hk hpn hq hl hqn ht
theorem c_parts (P : Option Addr) (C : Nat) (ps : List Part) (p : Option Addr) (cp : Nat) (k : List UInt8) (w : World) (hP : InP w P ps) (hPC : ps.length ≤ C) (hn : ps.length ≤ 1048576) (hl : (joined ps).length ≤ 1048576) (hp : In8 w p k) (hk : k.length ≤ 1048576) (hpn : Rm p cp k.length) (ht : Tabs w) :
    Calls Tryd.prog 5 #[.slice P ps.length C, .slice p k.length cp] w fun e w' => e = .returned (.bool true) ∧ Below w.heap.size w w' := law_parts the_api the_hashes P C ps p cp k w hP hPC hn hl hp hk hpn ht
theorem c_on (p : Option Addr) (cp : Nat) (a : List UInt8) (q : Option Addr) (cq : Nat) (b : List UInt8) (w : World) (hp : In8 w p a) (ha : a.length ≤ 1048576) (hpn : Rm p cp a.length) (hq : In8 w q b) (hb : b.length ≤ 1048576) (hqn : Rm q cq b.length) (ht : Tabs w) :
    Calls Tryd.prog 6 #[.slice p a.length cp, .slice q b.length cq] w fun e w' => e = .returned (.bool true) ∧ Below w.heap.size w w' := law_on the_api the_hashes p cp a q cq b w hp ha hpn hq hb hqn ht
theorem c_apart (p : Option Addr) (cp : Nat) (a : List UInt8) (q : Option Addr) (cq : Nat) (b : List UInt8) (r : Option Addr) (cr : Nat) (c : List UInt8) (w : World) (hp : In8 w p a) (ha : a.length ≤ 1048576) (hpn : Rm p cp a.length) (hq : In8 w q b) (hb : b.length ≤ 1048576) (hqn : Rm q cq b.length) (hr : In8 w r c) (hc : c.length ≤ 1048576) (hrn : Rm r cr c.length) (ht : Tabs w) :
    Calls Tryd.prog 7 #[.slice p a.length cp, .slice q b.length cq, .slice r c.length cr] w fun e w' => e = .returned (.bool true) ∧ Below w.heap.size w w' := law_apart the_api the_hashes p cp a q cq b r cr c w hp ha hpn hq hb hqn hr hc hrn ht
theorem c_long (p : Option Addr) (cp : Nat) (k : List UInt8) (q : Option Addr) (cq : Nat) (l : List UInt8) (w : World) (hp : In8 w p k) (hk : k.length ≤ 140737488351232) (hpn : Rm p cp k.length) (hq : In8 w q l) (hl : l.length ≤ 140737488351232) (hqn : Rm q cq l.length) (ht : Tabs w) :
    Calls Tryd.prog 8 #[.slice p k.length cp, .slice q l.length cq] w fun e w' => e = .returned (.bool true) ∧ Below w.heap.size w w' := law_long the_api p cp k q cq l w hp hk hpn hq hl hqn ht
theorem c_nil (p : Option Addr) (cp : Nat) (l : List UInt8) (w : World) (hp : In8 w p l) (_hl : l.length ≤ 140737488351232) (ht : Tabs w) :
    Calls Tryd.prog 9 #[.slice p l.length cp] w fun e w' => e = .returned (.bool true) ∧ Below w.heap.size w w' := law_nilhash the_api the_nil p cp l w hp ht
theorem c_keeps (p : Option Addr) (cp : Nat) (k : List UInt8) (q : Option Addr) (cq : Nat) (l : List UInt8) (w : World) (hp : In8 w p k) (hk : k.length ≤ 140737488351232) (hpn : Rm p cp k.length) (hq : In8 w q l) (hl : l.length ≤ 140737488351232) (hqn : Rm q cq l.length) (ht : Tabs w) :
    Calls Tryd.prog 10 #[.slice p k.length cp, .slice q l.length cq] w fun e w' => e = .returned (.bool true) ∧ Below w.heap.size w w' := law_keeps the_api the_hashes p cp k q cq l w hp hk hpn hq hl hqn ht
end Go.Proofs.YtohmhcglmaifpaaDoor.sha
